/- The reference's Receive of messages of a later epoch; Receive whole. -/
import Derived.Test.YtkdladacmjkdoaaXa
namespace Go.Proofs.Ytkdladacmjkdoaa
open Go.RowKit Go.Lib
set_option maxHeartbeats 16000000 in
set_option maxRecDepth 100000 in
theorem rreceive_gt (s : Ses) (now : Int) (m : Mes) (u : Int) (VA : Option Addr) (vn vc : Nat) (BA : Option Addr) (bn bc : Nat) (w : World)
    (hgd : chk s = 0 ∧ (m.k = 5 ∨ m.k = 6 ∨ m.k = 7) ∧ m.f = s.r ∧ m.t = s.l ∧ timeB m.e = true ∧ timeB m.n = true) (hcd : m.e > s.e) :
    Calls Try.prog 25 #[sv s, .int .i64 now, mv m u VA vn vc BA bn bc] w (RecQ (recR s m) w) := by
  obtain ⟨g, hg⟩ : ∃ g, w.heap.size = g := ⟨_, rfl⟩
  obtain ⟨k, mf, mt, mn, me⟩ := m
  obtain ⟨W2, hW2⟩ : ∃ X, ((w.alloc (.cells (cS s) 23)).alloc (.cells #[.int .i64 k, .int .i64 mf, .int .i64 mt, .int .i64 mn, .int .i64 u, .int .i64 me, .slice VA vn vc, .slice BA bn bc] 47)).alloc (.cells (cS z6) 23) = X := ⟨_, rfl⟩
  have HB2 : Hid (Below g w W2) := hid (by rw [← hW2, ← hg]; exact below_both (below_both (al1 w _) (al1 _ _)) (al1 _ _))
  have H3 : Hid (W2.heap[g]? = some (.cells (cS s) 23)) := hid (by rw [← hW2, ← hg]; exact old_al (old_al (heap_alloc_new w _) _) _)
  have H4 : Hid (W2.heap[g + 1]? = some (.cells #[.int .i64 k, .int .i64 mf, .int .i64 mt, .int .i64 mn, .int .i64 u, .int .i64 me, .slice VA vn vc, .slice BA bn bc] 47)) := hid (by rw [← hW2, ← hg]; exact old_al (new_two w _ _) _)
  have H6 : Hid (W2.heap[g + 2]? = some (.cells (cS z6) 23)) := hid (by rw [← hW2, ← hg]; exact new_three w _ _ _)
  obtain ⟨c, hc⟩ : ∃ c, chk s = c := ⟨_, rfl⟩
  have HCK := hid (rcheck_any s W2)
  have HOK : Hid (c = 0 → chk s = 0) := hid (fun h => hc.trans h)
  obtain ⟨R, hR⟩ : ∃ R, recR s ⟨k, mf, mt, mn, me⟩ = R := ⟨_, rfl⟩
  rw [hR]
  rw [hc] at HCK
  have HC := hid hc
  rw [hc] at hgd
  obtain ⟨y0, y1, y2, y3, y4, y5⟩ := load6 H3.out
  have HW2 := hid hW2
  have HG := hid hg
  clear hW2 hg hc
  obtain ⟨l, r, se, sn, sp, sd⟩ := s
  unfold sv mv
  simp only at y0 y1 y2 y3 y4 y5 hR hgd hcd ⊢
  simp only [cS, z6] at HW2
  simp only [sv] at HCK
  obtain ⟨c0, hk, g1, g2, g3, g4⟩ := hgd
  subst g1 g2 c0
  have ok := chk_ok (HOK.out rfl)
  have te := timeB_true g3
  have tn := timeB_true g4
  have _hsd : sp ≠ 1 → sd = 0 := fun h => (ok.2.2.2.2.2.2.2).resolve_left h
  have HSD := hid _hsd
  have hp3 : sp = 0 ∨ sp = 1 ∨ sp = 2 := ok.2.2.2.2.2.1
  have d1 : decide (me < 0) = false := decide_eq_false (by omega)
  have d2 : decide (1073741824 < me) = false := decide_eq_false (by omega)
  have d3 : decide (mn < 0) = false := decide_eq_false (by omega)
  have d4 : decide (1073741824 < mn) = false := decide_eq_false (by omega)
  have hrq : recR ⟨mt, mf, se, sn, sp, sd⟩ ⟨k, mf, mt, mn, me⟩ = if me < se then (if k = 5 then (⟨mt, mf, se, sn, sp, sd⟩, [nm 7 ⟨mt, mf, se, sn, sp, sd⟩]) else (⟨mt, mf, se, sn, sp, sd⟩, [])) else actR k (if se < me then ⟨mt, mf, me, sn, 0, 0⟩ else ⟨mt, mf, se, sn, sp, sd⟩) mn := by
    unfold recR
    rw [if_pos ⟨HOK.out rfl, hk, rfl, rfl, g3, g4⟩]
  rw [hrq] at hR
  clear ok te tn g3 g4 _hsd hrq hp3
  rw [if_neg (by omega), if_pos hcd] at hR
  have d5 : decide (me < se) = false := decide_eq_false (by omega)
  have d6 : decide (se < me) = true := decide_eq_true hcd
  clear hcd
  unfold actR helloR welcomeR resetR at hR
  simp only at hR
  rcases hk with rfl | rfl | rfl
  · rw [if_pos rfl] at hR
    go_enter Try.func25, Try.ntmps25
    go_upto_region 1 with fail
    rw [HG.out, HW2.out]
    go_upto_region 12 with (first | (go_at_call 14; (with_reducible refine HCK.out.mono ?_); rintro e' w3 ⟨rfl, hb⟩; have HB3 := hid (HB2.out.trans (hb.mono (Nat.le_of_lt (box_lt H3.out)))); have h3' := (hb.block _ (box_lt H3.out)).trans H3.out; have h4' := (hb.block _ (box_lt H4.out)).trans H4.out; have h6' := (hb.block _ (box_lt H6.out)).trans H6.out; have H3' := hid h3'; have H4' := hid h4'; have H6' := hid h6'; obtain ⟨u0, u1, u2, u3, u4, u5⟩ := load6 h3'; obtain ⟨m0, m1, m2, m3, m4, m5⟩ := mcell h4'; obtain ⟨v0, v1, v2, v3, v4, v5⟩ := load6 h6'; simp only at u0 u1 u2 u3 u4 u5; simp only [z6] at v0 v1 v2 v3 v4 v5; have f3 := box_fr h3'; have f6 := box_fr h6'; clear hb h3' h4' h6') | (go_at_call 38; (with_reducible refine (phase_any' ⟨mt, mf, me, sn, sp, sd⟩ 0 _).mono ?_); rintro e' w5 ⟨rfl, hb⟩; have h3' := (hb.block _ (box_lt (show (w3.setCell ⟨g, 2, none⟩ (.int .i64 me)).heap[g]? = some (.cells (cS ⟨mt, mf, me, sn, sp, sd⟩) 23) from box_set (cs := [.int .i64 mt, .int .i64 mf, .int .i64 se, .int .i64 sn, .int .i64 sp, .int .i64 sd]) H3'.out 2 _))).trans (show (w3.setCell ⟨g, 2, none⟩ (.int .i64 me)).heap[g]? = some (.cells (cS ⟨mt, mf, me, sn, sp, sd⟩) 23) from box_set (cs := [.int .i64 mt, .int .i64 mf, .int .i64 se, .int .i64 sn, .int .i64 sp, .int .i64 sd]) H3'.out 2 _); have h4' := (hb.block _ (box_lt (show (w3.setCell ⟨g, 2, none⟩ (.int .i64 me)).heap[g + 1]? = _ from keep1 H4'.out (by omega) _ _))).trans (show (w3.setCell ⟨g, 2, none⟩ (.int .i64 me)).heap[g + 1]? = _ from keep1 H4'.out (by omega) _ _); have h6' := (hb.block _ (box_lt (show (w3.setCell ⟨g, 2, none⟩ (.int .i64 me)).heap[g + 2]? = _ from keep1 H6'.out (by omega) _ _))).trans (show (w3.setCell ⟨g, 2, none⟩ (.int .i64 me)).heap[g + 2]? = _ from keep1 H6'.out (by omega) _ _); have HB5 := hid ((show Below g w (w3.setCell ⟨g, 2, none⟩ (.int .i64 me)) from HB3.out.setCell (Nat.le_refl _) _).trans (hb.mono (Nat.le_of_lt (box_lt (show (w3.setCell ⟨g, 2, none⟩ (.int .i64 me)).heap[g]? = some (.cells (cS ⟨mt, mf, me, sn, sp, sd⟩) 23) from box_set (cs := [.int .i64 mt, .int .i64 mf, .int .i64 se, .int .i64 sn, .int .i64 sp, .int .i64 sd]) H3'.out 2 _))))); have H35 := hid h3'; have H45 := hid h4'; have H65 := hid h6'; obtain ⟨u0, u1, u2, u3, u4, u5⟩ := load6 h3'; obtain ⟨m0, m1, m2, m3, m4, m5⟩ := mcell h4'; obtain ⟨v0, v1, v2, v3, v4, v5⟩ := load6 h6'; simp only at u0 u1 u2 u3 u4 u5; simp only [z6] at v0 v1 v2 v3 v4 v5; have f3 := box_fr h3'; have f6 := box_fr h6'; clear hb h3' h4' h6'))
    obtain ⟨Wq, hWq⟩ : ∃ X, set6 w5 g ⟨mt, mf, me, sn, 0, 0⟩ = X := ⟨_, rfl⟩
    have h3q : Wq.heap[g]? = some (.cells (cS ⟨mt, mf, me, sn, 0, 0⟩) 23) := by rw [← hWq]; exact set6h ⟨mt, mf, me, sn, 0, 0⟩ H35.out
    have h4q : Wq.heap[g + 1]? = some (.cells #[.int .i64 5, .int .i64 mf, .int .i64 mt, .int .i64 mn, .int .i64 u, .int .i64 me, .slice VA vn vc, .slice BA bn bc] 47) := by rw [← hWq]; exact keep6 H45.out (by omega) _
    have h6q : Wq.heap[g + 2]? = some (.cells (cS z6) 23) := by rw [← hWq]; exact keep6 H65.out (by omega) _
    have hBq : Below g w Wq := by rw [← hWq]; exact set6b ⟨mt, mf, me, sn, 0, 0⟩ HB5.out (Nat.le_refl _)
    have H3q := hid h3q
    have H4q := hid h4q
    have H6q := hid h6q
    have HBq := hid hBq
    have HWq := hid hWq
    simp only [set6] at HWq
    clear u0 u1 u2 u3 u4 u5 m0 m1 m2 m3 m4 m5 v0 v1 v2 v3 v4 v5 f3 f6 hBq hWq
    obtain ⟨u0, u1, u2, u3, u4, u5⟩ := load6 h3q
    obtain ⟨m0, m1, m2, m3, m4, m5⟩ := mcell h4q
    obtain ⟨v0, v1, v2, v3, v4, v5⟩ := load6 h6q
    have f3 := box_fr h3q
    have f6 := box_fr h6q
    simp only at u0 u1 u2 u3 u4 u5
    simp only [z6] at v0 v1 v2 v3 v4 v5
    rw [HWq.out]
    clear h3q h4q h6q
    by_cases h2 : mn ≤ sn
    · have d8 : decide (mn ≤ sn) = true := decide_eq_true h2
      rw [if_pos ⟨h2, trivial⟩] at hR
      by_cases h1 : mn < sn
      · have d7 : decide (mn < sn) = true := decide_eq_true h1
        clear h1 h2
        go_upto_region 17 with fail
        obtain ⟨Wf, hWf⟩ : ∃ X, Wq = X := ⟨_, rfl⟩
        have h3f : Wf.heap[g]? = some (.cells (cS ⟨mt, mf, me, sn, 0, 0⟩) 23) := by rw [← hWf]; exact H3q.out
        have h6f : Wf.heap[g + 2]? = some (.cells (cS z6) 23) := by rw [← hWf]; exact H6q.out
        have hBf : Below g w Wf := by rw [← hWf]; exact HBq.out
        have HWf := hid hWf
        (try simp only [set6] at HWf)
        rw [HWf.out]
        obtain ⟨X0, hX0⟩ : ∃ X, Wf.drew = X := ⟨_, rfl⟩
        have h30 : X0.heap[g]? = some (.cells (cS ⟨mt, mf, me, sn, 0, 0⟩) 23) := by rw [← hX0]; exact h3f
        have h60 : X0.heap[g + 2]? = some (.cells (cS z6) 23) := by rw [← hX0]; exact h6f
        have HB0 : Hid (Below g w X0) := hid (by rw [← hX0]; exact below_drew hBf)
        clear h3f h6f hBf hWf
        have hHeld := load6 h30
        simp only at hHeld
        have HSN := hid (message_any ⟨mt, mf, me, sn, 0, 0⟩ 7 X0)
        simp only [sv] at HSN
        have HX0 := hid hX0
        have H30 := hid h30
        have H60 := hid h60
        have HR := hid hR
        clear hX0 h30 h60 m0 m1 m2 m3 m4 m5 u0 u1 u2 u3 u4 u5 v0 v1 v2 v3 v4 v5 f3 f6 y0 y1 y2 y3 y4 y5 hR
        refine region_tail 3 (fun X => X.cell? ⟨g, 0, none⟩ = some (.int .i64 mt) ∧ X.cell? ⟨g, 1, none⟩ = some (.int .i64 mf) ∧ X.cell? ⟨g, 2, none⟩ = some (.int .i64 me) ∧ X.cell? ⟨g, 3, none⟩ = some (.int .i64 sn) ∧ X.cell? ⟨g, 4, none⟩ = some (.int .i64 0) ∧ X.cell? ⟨g, 5, none⟩ = some (.int .i64 0)) (by kernel_rfl) ?_
        rw [HX0.out]
        refine' wpAnyT_take (i := 0) (oi := ?oic0) (v := ?vc0) ?hic0 (by kernel_rfl) (by kernel_rfl) ?hqc0 ?hyc0 hHeld ?restc0
        case hic0 => (simp only [List.getElem?_toArray, List.getElem?_cons_zero]; rfl)
        case hqc0 => exact fun _ _ _ h => h
        case hyc0 => (refine Or.inl ⟨by rfl, ?_⟩; intro w' hSw; (try dsimp only at hSw); go_simp; try with_reducible rfl)
        (try simp only [Act.put, List.setIfInBounds_toArray, List.set_cons_zero, List.set_cons_succ])
        refine' wpAnyT_take (i := 1) (oi := ?oic1) (v := ?vc1) ?hic1 (by kernel_rfl) (by kernel_rfl) ?hqc1 ?hyc1 hHeld ?restc1
        case hic1 => (simp only [List.getElem?_toArray, List.getElem?_cons_zero, List.getElem?_cons_succ]; rfl)
        case hqc1 => exact fun _ _ _ h => h
        case hyc1 => (refine Or.inl ⟨by rfl, ?_⟩; intro w' hSw; (try dsimp only at hSw); go_simp; try with_reducible rfl)
        (try simp only [Act.put, List.setIfInBounds_toArray, List.set_cons_zero, List.set_cons_succ])
        refine' wpAnyT_one (i := 2) (o := ?oic2) (by kernel_rfl) ?hic2 (fun K hK => ?stc2)
        case hic2 => (simp only [List.getElem?_toArray, List.getElem?_cons_zero, List.getElem?_cons_succ]; rfl)
        go_simp
        go_at_call 35
        (with_reducible refine HSN.out.mono ?_)
        rintro e' X1 ⟨v, rfl, hm, hb⟩
        have HM1 := hid hm
        have HB1 := hid (HB0.out.trans (hb.mono (Nat.le_of_lt (box_lt H30.out))))
        have h61 := (hb.block _ (box_lt H60.out)).trans H60.out
        have H61 := hid h61
        obtain ⟨v0, v1, v2, v3, v4, v5⟩ := load6 h61
        simp only [z6] at v0 v1 v2 v3 v4 v5
        have f6 := box_fr h61
        have hHeld := load6 ((hb.block _ (box_lt H30.out)).trans H30.out)
        simp only at hHeld
        clear hm hb h61
        refine hK.out _ _ (fun _ => hHeld) ?_
        clear hK K
        (try simp only [Act.put, List.setIfInBounds_toArray, List.set_cons_zero, List.set_cons_succ])
        refine' wpAnyT_one (i := 3) (o := ?oic3) (by kernel_rfl) ?hic3 (fun K hK => ?stc3)
        case hic3 => (simp only [List.getElem?_toArray, List.getElem?_cons_zero, List.getElem?_cons_succ]; rfl)
        go_simp
        refine hK.out _ _ (fun h => absurd h (by decide)) ?_
        clear hK K
        (try simp only [Act.put, List.setIfInBounds_toArray, List.set_cons_zero, List.set_cons_succ])
        refine' wpAnyT_one (i := 4) (o := ?oic4) (by kernel_rfl) ?hic4 (fun K hK => ?stc4)
        case hic4 => (simp only [List.getElem?_toArray, List.getElem?_cons_zero, List.getElem?_cons_succ]; rfl)
        go_simp
        refine hK.out _ _ (fun h => absurd h (by decide)) ?_
        clear hK K
        (try simp only [Act.put, List.setIfInBounds_toArray, List.set_cons_zero, List.set_cons_succ])
        refine wpAnyT_done (by kernel_rfl) ?_ _
        go_wp2_with fail
        refine bodyPost_ret (results_s1 rfl _ _ (g + 2) 23 ⟨mt, mf, me, sn, 0, 0⟩ rfl (set6h ⟨mt, mf, me, sn, 0, 0⟩ H61.out) _ rfl) rfl ?_
        rw [← HR.out]
        refine ⟨v, rfl, ?_, ?_⟩
        · refine HM1.out.keep (by have := HB0.out.size; have := HG.out; omega) (fun b x hb hx => ?_)
          have hne : b ≠ g + 2 := by have := box_lt H60.out; omega
          exact ((set6u (g := g + 2) ⟨mt, mf, me, sn, 0, 0⟩ (Upd.refl _ X1)).block b (box_lt hx) hne).trans hx
        · rw [HG.out]
          exact set6b ⟨mt, mf, me, sn, 0, 0⟩ HB1.out (by omega)
      have d7 : decide (mn < sn) = false := decide_eq_false h1
      clear h1 h2
      go_upto_region 17 with fail
      obtain ⟨Wf, hWf⟩ : ∃ X, Wq = X := ⟨_, rfl⟩
      have h3f : Wf.heap[g]? = some (.cells (cS ⟨mt, mf, me, sn, 0, 0⟩) 23) := by rw [← hWf]; exact H3q.out
      have h6f : Wf.heap[g + 2]? = some (.cells (cS z6) 23) := by rw [← hWf]; exact H6q.out
      have hBf : Below g w Wf := by rw [← hWf]; exact HBq.out
      have HWf := hid hWf
      (try simp only [set6] at HWf)
      rw [HWf.out]
      obtain ⟨X0, hX0⟩ : ∃ X, Wf.drew = X := ⟨_, rfl⟩
      have h30 : X0.heap[g]? = some (.cells (cS ⟨mt, mf, me, sn, 0, 0⟩) 23) := by rw [← hX0]; exact h3f
      have h60 : X0.heap[g + 2]? = some (.cells (cS z6) 23) := by rw [← hX0]; exact h6f
      have HB0 : Hid (Below g w X0) := hid (by rw [← hX0]; exact below_drew hBf)
      clear h3f h6f hBf hWf
      have hHeld := load6 h30
      simp only at hHeld
      have HSN := hid (message_any ⟨mt, mf, me, sn, 0, 0⟩ 7 X0)
      simp only [sv] at HSN
      have HX0 := hid hX0
      have H30 := hid h30
      have H60 := hid h60
      have HR := hid hR
      clear hX0 h30 h60 m0 m1 m2 m3 m4 m5 u0 u1 u2 u3 u4 u5 v0 v1 v2 v3 v4 v5 f3 f6 y0 y1 y2 y3 y4 y5 hR
      refine region_tail 3 (fun X => X.cell? ⟨g, 0, none⟩ = some (.int .i64 mt) ∧ X.cell? ⟨g, 1, none⟩ = some (.int .i64 mf) ∧ X.cell? ⟨g, 2, none⟩ = some (.int .i64 me) ∧ X.cell? ⟨g, 3, none⟩ = some (.int .i64 sn) ∧ X.cell? ⟨g, 4, none⟩ = some (.int .i64 0) ∧ X.cell? ⟨g, 5, none⟩ = some (.int .i64 0)) (by kernel_rfl) ?_
      rw [HX0.out]
      refine' wpAnyT_take (i := 0) (oi := ?oid0) (v := ?vd0) ?hid0 (by kernel_rfl) (by kernel_rfl) ?hqd0 ?hyd0 hHeld ?restd0
      case hid0 => (simp only [List.getElem?_toArray, List.getElem?_cons_zero]; rfl)
      case hqd0 => exact fun _ _ _ h => h
      case hyd0 => (refine Or.inl ⟨by rfl, ?_⟩; intro w' hSw; (try dsimp only at hSw); go_simp; try with_reducible rfl)
      (try simp only [Act.put, List.setIfInBounds_toArray, List.set_cons_zero, List.set_cons_succ])
      refine' wpAnyT_take (i := 1) (oi := ?oid1) (v := ?vd1) ?hid1 (by kernel_rfl) (by kernel_rfl) ?hqd1 ?hyd1 hHeld ?restd1
      case hid1 => (simp only [List.getElem?_toArray, List.getElem?_cons_zero, List.getElem?_cons_succ]; rfl)
      case hqd1 => exact fun _ _ _ h => h
      case hyd1 => (refine Or.inl ⟨by rfl, ?_⟩; intro w' hSw; (try dsimp only at hSw); go_simp; try with_reducible rfl)
      (try simp only [Act.put, List.setIfInBounds_toArray, List.set_cons_zero, List.set_cons_succ])
      refine' wpAnyT_one (i := 2) (o := ?oid2) (by kernel_rfl) ?hid2 (fun K hK => ?std2)
      case hid2 => (simp only [List.getElem?_toArray, List.getElem?_cons_zero, List.getElem?_cons_succ]; rfl)
      go_simp
      go_at_call 35
      (with_reducible refine HSN.out.mono ?_)
      rintro e' X1 ⟨v, rfl, hm, hb⟩
      have HM1 := hid hm
      have HB1 := hid (HB0.out.trans (hb.mono (Nat.le_of_lt (box_lt H30.out))))
      have h61 := (hb.block _ (box_lt H60.out)).trans H60.out
      have H61 := hid h61
      obtain ⟨v0, v1, v2, v3, v4, v5⟩ := load6 h61
      simp only [z6] at v0 v1 v2 v3 v4 v5
      have f6 := box_fr h61
      have hHeld := load6 ((hb.block _ (box_lt H30.out)).trans H30.out)
      simp only at hHeld
      clear hm hb h61
      refine hK.out _ _ (fun _ => hHeld) ?_
      clear hK K
      (try simp only [Act.put, List.setIfInBounds_toArray, List.set_cons_zero, List.set_cons_succ])
      refine' wpAnyT_one (i := 3) (o := ?oid3) (by kernel_rfl) ?hid3 (fun K hK => ?std3)
      case hid3 => (simp only [List.getElem?_toArray, List.getElem?_cons_zero, List.getElem?_cons_succ]; rfl)
      go_simp
      refine hK.out _ _ (fun h => absurd h (by decide)) ?_
      clear hK K
      (try simp only [Act.put, List.setIfInBounds_toArray, List.set_cons_zero, List.set_cons_succ])
      refine' wpAnyT_one (i := 4) (o := ?oid4) (by kernel_rfl) ?hid4 (fun K hK => ?std4)
      case hid4 => (simp only [List.getElem?_toArray, List.getElem?_cons_zero, List.getElem?_cons_succ]; rfl)
      go_simp
      refine hK.out _ _ (fun h => absurd h (by decide)) ?_
      clear hK K
      (try simp only [Act.put, List.setIfInBounds_toArray, List.set_cons_zero, List.set_cons_succ])
      refine wpAnyT_done (by kernel_rfl) ?_ _
      go_wp2_with fail
      refine bodyPost_ret (results_s1 rfl _ _ (g + 2) 23 ⟨mt, mf, me, sn, 0, 0⟩ rfl (set6h ⟨mt, mf, me, sn, 0, 0⟩ H61.out) _ rfl) rfl ?_
      rw [← HR.out]
      refine ⟨v, rfl, ?_, ?_⟩
      · refine HM1.out.keep (by have := HB0.out.size; have := HG.out; omega) (fun b x hb hx => ?_)
        have hne : b ≠ g + 2 := by have := box_lt H60.out; omega
        exact ((set6u (g := g + 2) ⟨mt, mf, me, sn, 0, 0⟩ (Upd.refl _ X1)).block b (box_lt hx) hne).trans hx
      · rw [HG.out]
        exact set6b ⟨mt, mf, me, sn, 0, 0⟩ HB1.out (by omega)
    have d8 : decide (mn ≤ sn) = false := decide_eq_false h2
    have d7 : decide (mn < sn) = false := decide_eq_false (by omega)
    rw [if_neg (fun h => h2 h.1), if_neg (by omega)] at hR
    clear h2
    go_upto_region 20 with (go_at_call 38; (with_reducible refine (phase_any' ⟨mt, mf, me, mn, 0, 0⟩ 2 _).mono ?_); rintro e' w5 ⟨rfl, hb⟩; have h3' := (hb.block _ (box_lt (show (Wq.setCell ⟨g, 3, none⟩ (.int .i64 mn)).heap[g]? = some (.cells (cS ⟨mt, mf, me, mn, 0, 0⟩) 23) from box_set (cs := [.int .i64 mt, .int .i64 mf, .int .i64 me, .int .i64 sn, .int .i64 0, .int .i64 0]) (H3q.out) 3 _))).trans (show (Wq.setCell ⟨g, 3, none⟩ (.int .i64 mn)).heap[g]? = some (.cells (cS ⟨mt, mf, me, mn, 0, 0⟩) 23) from box_set (cs := [.int .i64 mt, .int .i64 mf, .int .i64 me, .int .i64 sn, .int .i64 0, .int .i64 0]) (H3q.out) 3 _); have h4' := (hb.block _ (box_lt (show (Wq.setCell ⟨g, 3, none⟩ (.int .i64 mn)).heap[g + 1]? = _ from keep1 (H4q.out) (by omega) _ _))).trans (show (Wq.setCell ⟨g, 3, none⟩ (.int .i64 mn)).heap[g + 1]? = _ from keep1 (H4q.out) (by omega) _ _); have h6' := (hb.block _ (box_lt (show (Wq.setCell ⟨g, 3, none⟩ (.int .i64 mn)).heap[g + 2]? = _ from keep1 (H6q.out) (by omega) _ _))).trans (show (Wq.setCell ⟨g, 3, none⟩ (.int .i64 mn)).heap[g + 2]? = _ from keep1 (H6q.out) (by omega) _ _); have HB5 := hid ((show Below g w (Wq.setCell ⟨g, 3, none⟩ (.int .i64 mn)) from (HBq.out).setCell (Nat.le_refl _) _).trans (hb.mono (Nat.le_of_lt (box_lt (show (Wq.setCell ⟨g, 3, none⟩ (.int .i64 mn)).heap[g]? = some (.cells (cS ⟨mt, mf, me, mn, 0, 0⟩) 23) from box_set (cs := [.int .i64 mt, .int .i64 mf, .int .i64 me, .int .i64 sn, .int .i64 0, .int .i64 0]) (H3q.out) 3 _))))); have H35 := hid h3'; have H45 := hid h4'; have H65 := hid h6'; obtain ⟨u0, u1, u2, u3, u4, u5⟩ := load6 h3'; obtain ⟨m0, m1, m2, m3, m4, m5⟩ := mcell h4'; obtain ⟨v0, v1, v2, v3, v4, v5⟩ := load6 h6'; simp only at u0 u1 u2 u3 u4 u5; simp only [z6] at v0 v1 v2 v3 v4 v5; have f3 := box_fr h3'; have f6 := box_fr h6'; clear hb h3' h4' h6')
    obtain ⟨Wf, hWf⟩ : ∃ X, set6 w5 g ⟨mt, mf, me, mn, 2, 0⟩ = X := ⟨_, rfl⟩
    have h3f : Wf.heap[g]? = some (.cells (cS ⟨mt, mf, me, mn, 2, 0⟩) 23) := by rw [← hWf]; exact set6h ⟨mt, mf, me, mn, 2, 0⟩ H35.out
    have h6f : Wf.heap[g + 2]? = some (.cells (cS z6) 23) := by rw [← hWf]; exact keep6 H65.out (by omega) _
    have hBf : Below g w Wf := by rw [← hWf]; exact (set6b ⟨mt, mf, me, mn, 2, 0⟩ HB5.out (Nat.le_refl _))
    have HWf := hid hWf
    (try simp only [set6] at HWf)
    rw [HWf.out]
    obtain ⟨X0, hX0⟩ : ∃ X, Wf.drew = X := ⟨_, rfl⟩
    have h30 : X0.heap[g]? = some (.cells (cS ⟨mt, mf, me, mn, 2, 0⟩) 23) := by rw [← hX0]; exact h3f
    have h60 : X0.heap[g + 2]? = some (.cells (cS z6) 23) := by rw [← hX0]; exact h6f
    have HB0 : Hid (Below g w X0) := hid (by rw [← hX0]; exact below_drew hBf)
    clear h3f h6f hBf hWf
    have hHeld := load6 h30
    simp only at hHeld
    have HSN := hid (message_any ⟨mt, mf, me, mn, 2, 0⟩ 6 X0)
    simp only [sv] at HSN
    have HX0 := hid hX0
    have H30 := hid h30
    have H60 := hid h60
    have HR := hid hR
    clear hX0 h30 h60 m0 m1 m2 m3 m4 m5 u0 u1 u2 u3 u4 u5 v0 v1 v2 v3 v4 v5 f3 f6 y0 y1 y2 y3 y4 y5 hR
    refine region_tail 3 (fun X => X.cell? ⟨g, 0, none⟩ = some (.int .i64 mt) ∧ X.cell? ⟨g, 1, none⟩ = some (.int .i64 mf) ∧ X.cell? ⟨g, 2, none⟩ = some (.int .i64 me) ∧ X.cell? ⟨g, 3, none⟩ = some (.int .i64 mn) ∧ X.cell? ⟨g, 4, none⟩ = some (.int .i64 2) ∧ X.cell? ⟨g, 5, none⟩ = some (.int .i64 0)) (by kernel_rfl) ?_
    rw [HX0.out]
    refine' wpAnyT_take (i := 0) (oi := ?oie0) (v := ?ve0) ?hie0 (by kernel_rfl) (by kernel_rfl) ?hqe0 ?hye0 hHeld ?reste0
    case hie0 => (simp only [List.getElem?_toArray, List.getElem?_cons_zero]; rfl)
    case hqe0 => exact fun _ _ _ h => h
    case hye0 => (refine Or.inl ⟨by rfl, ?_⟩; intro w' hSw; (try dsimp only at hSw); go_simp; try with_reducible rfl)
    (try simp only [Act.put, List.setIfInBounds_toArray, List.set_cons_zero, List.set_cons_succ])
    refine' wpAnyT_take (i := 1) (oi := ?oie1) (v := ?ve1) ?hie1 (by kernel_rfl) (by kernel_rfl) ?hqe1 ?hye1 hHeld ?reste1
    case hie1 => (simp only [List.getElem?_toArray, List.getElem?_cons_zero, List.getElem?_cons_succ]; rfl)
    case hqe1 => exact fun _ _ _ h => h
    case hye1 => (refine Or.inl ⟨by rfl, ?_⟩; intro w' hSw; (try dsimp only at hSw); go_simp; try with_reducible rfl)
    (try simp only [Act.put, List.setIfInBounds_toArray, List.set_cons_zero, List.set_cons_succ])
    refine' wpAnyT_one (i := 2) (o := ?oie2) (by kernel_rfl) ?hie2 (fun K hK => ?ste2)
    case hie2 => (simp only [List.getElem?_toArray, List.getElem?_cons_zero, List.getElem?_cons_succ]; rfl)
    go_simp
    go_at_call 35
    (with_reducible refine HSN.out.mono ?_)
    rintro e' X1 ⟨v, rfl, hm, hb⟩
    have HM1 := hid hm
    have HB1 := hid (HB0.out.trans (hb.mono (Nat.le_of_lt (box_lt H30.out))))
    have h61 := (hb.block _ (box_lt H60.out)).trans H60.out
    have H61 := hid h61
    obtain ⟨v0, v1, v2, v3, v4, v5⟩ := load6 h61
    simp only [z6] at v0 v1 v2 v3 v4 v5
    have f6 := box_fr h61
    have hHeld := load6 ((hb.block _ (box_lt H30.out)).trans H30.out)
    simp only at hHeld
    clear hm hb h61
    refine hK.out _ _ (fun _ => hHeld) ?_
    clear hK K
    (try simp only [Act.put, List.setIfInBounds_toArray, List.set_cons_zero, List.set_cons_succ])
    refine' wpAnyT_one (i := 3) (o := ?oie3) (by kernel_rfl) ?hie3 (fun K hK => ?ste3)
    case hie3 => (simp only [List.getElem?_toArray, List.getElem?_cons_zero, List.getElem?_cons_succ]; rfl)
    go_simp
    refine hK.out _ _ (fun h => absurd h (by decide)) ?_
    clear hK K
    (try simp only [Act.put, List.setIfInBounds_toArray, List.set_cons_zero, List.set_cons_succ])
    refine' wpAnyT_one (i := 4) (o := ?oie4) (by kernel_rfl) ?hie4 (fun K hK => ?ste4)
    case hie4 => (simp only [List.getElem?_toArray, List.getElem?_cons_zero, List.getElem?_cons_succ]; rfl)
    go_simp
    refine hK.out _ _ (fun h => absurd h (by decide)) ?_
    clear hK K
    (try simp only [Act.put, List.setIfInBounds_toArray, List.set_cons_zero, List.set_cons_succ])
    refine wpAnyT_done (by kernel_rfl) ?_ _
    go_wp2_with fail
    refine bodyPost_ret (results_s1 rfl _ _ (g + 2) 23 ⟨mt, mf, me, mn, 2, 0⟩ rfl (set6h ⟨mt, mf, me, mn, 2, 0⟩ H61.out) _ rfl) rfl ?_
    rw [← HR.out]
    refine ⟨v, rfl, ?_, ?_⟩
    · refine HM1.out.keep (by have := HB0.out.size; have := HG.out; omega) (fun b x hb hx => ?_)
      have hne : b ≠ g + 2 := by have := box_lt H60.out; omega
      exact ((set6u (g := g + 2) ⟨mt, mf, me, mn, 2, 0⟩ (Upd.refl _ X1)).block b (box_lt hx) hne).trans hx
    · rw [HG.out]
      exact set6b ⟨mt, mf, me, mn, 2, 0⟩ HB1.out (by omega)
  · rw [if_neg (by decide), if_pos rfl] at hR
    go_enter Try.func25, Try.ntmps25
    go_upto_region 1 with fail
    rw [HG.out, HW2.out]
    go_upto_region 12 with (first | (go_at_call 14; (with_reducible refine HCK.out.mono ?_); rintro e' w3 ⟨rfl, hb⟩; have HB3 := hid (HB2.out.trans (hb.mono (Nat.le_of_lt (box_lt H3.out)))); have h3' := (hb.block _ (box_lt H3.out)).trans H3.out; have h4' := (hb.block _ (box_lt H4.out)).trans H4.out; have h6' := (hb.block _ (box_lt H6.out)).trans H6.out; have H3' := hid h3'; have H4' := hid h4'; have H6' := hid h6'; obtain ⟨u0, u1, u2, u3, u4, u5⟩ := load6 h3'; obtain ⟨m0, m1, m2, m3, m4, m5⟩ := mcell h4'; obtain ⟨v0, v1, v2, v3, v4, v5⟩ := load6 h6'; simp only at u0 u1 u2 u3 u4 u5; simp only [z6] at v0 v1 v2 v3 v4 v5; have f3 := box_fr h3'; have f6 := box_fr h6'; clear hb h3' h4' h6') | (go_at_call 38; (with_reducible refine (phase_any' ⟨mt, mf, me, sn, sp, sd⟩ 0 _).mono ?_); rintro e' w5 ⟨rfl, hb⟩; have h3' := (hb.block _ (box_lt (show (w3.setCell ⟨g, 2, none⟩ (.int .i64 me)).heap[g]? = some (.cells (cS ⟨mt, mf, me, sn, sp, sd⟩) 23) from box_set (cs := [.int .i64 mt, .int .i64 mf, .int .i64 se, .int .i64 sn, .int .i64 sp, .int .i64 sd]) H3'.out 2 _))).trans (show (w3.setCell ⟨g, 2, none⟩ (.int .i64 me)).heap[g]? = some (.cells (cS ⟨mt, mf, me, sn, sp, sd⟩) 23) from box_set (cs := [.int .i64 mt, .int .i64 mf, .int .i64 se, .int .i64 sn, .int .i64 sp, .int .i64 sd]) H3'.out 2 _); have h4' := (hb.block _ (box_lt (show (w3.setCell ⟨g, 2, none⟩ (.int .i64 me)).heap[g + 1]? = _ from keep1 H4'.out (by omega) _ _))).trans (show (w3.setCell ⟨g, 2, none⟩ (.int .i64 me)).heap[g + 1]? = _ from keep1 H4'.out (by omega) _ _); have h6' := (hb.block _ (box_lt (show (w3.setCell ⟨g, 2, none⟩ (.int .i64 me)).heap[g + 2]? = _ from keep1 H6'.out (by omega) _ _))).trans (show (w3.setCell ⟨g, 2, none⟩ (.int .i64 me)).heap[g + 2]? = _ from keep1 H6'.out (by omega) _ _); have HB5 := hid ((show Below g w (w3.setCell ⟨g, 2, none⟩ (.int .i64 me)) from HB3.out.setCell (Nat.le_refl _) _).trans (hb.mono (Nat.le_of_lt (box_lt (show (w3.setCell ⟨g, 2, none⟩ (.int .i64 me)).heap[g]? = some (.cells (cS ⟨mt, mf, me, sn, sp, sd⟩) 23) from box_set (cs := [.int .i64 mt, .int .i64 mf, .int .i64 se, .int .i64 sn, .int .i64 sp, .int .i64 sd]) H3'.out 2 _))))); have H35 := hid h3'; have H45 := hid h4'; have H65 := hid h6'; obtain ⟨u0, u1, u2, u3, u4, u5⟩ := load6 h3'; obtain ⟨m0, m1, m2, m3, m4, m5⟩ := mcell h4'; obtain ⟨v0, v1, v2, v3, v4, v5⟩ := load6 h6'; simp only at u0 u1 u2 u3 u4 u5; simp only [z6] at v0 v1 v2 v3 v4 v5; have f3 := box_fr h3'; have f6 := box_fr h6'; clear hb h3' h4' h6'))
    obtain ⟨Wq, hWq⟩ : ∃ X, set6 w5 g ⟨mt, mf, me, sn, 0, 0⟩ = X := ⟨_, rfl⟩
    have h3q : Wq.heap[g]? = some (.cells (cS ⟨mt, mf, me, sn, 0, 0⟩) 23) := by rw [← hWq]; exact set6h ⟨mt, mf, me, sn, 0, 0⟩ H35.out
    have h4q : Wq.heap[g + 1]? = some (.cells #[.int .i64 6, .int .i64 mf, .int .i64 mt, .int .i64 mn, .int .i64 u, .int .i64 me, .slice VA vn vc, .slice BA bn bc] 47) := by rw [← hWq]; exact keep6 H45.out (by omega) _
    have h6q : Wq.heap[g + 2]? = some (.cells (cS z6) 23) := by rw [← hWq]; exact keep6 H65.out (by omega) _
    have hBq : Below g w Wq := by rw [← hWq]; exact set6b ⟨mt, mf, me, sn, 0, 0⟩ HB5.out (Nat.le_refl _)
    have H3q := hid h3q
    have H4q := hid h4q
    have H6q := hid h6q
    have HBq := hid hBq
    have HWq := hid hWq
    simp only [set6] at HWq
    clear u0 u1 u2 u3 u4 u5 m0 m1 m2 m3 m4 m5 v0 v1 v2 v3 v4 v5 f3 f6 hBq hWq
    obtain ⟨u0, u1, u2, u3, u4, u5⟩ := load6 h3q
    obtain ⟨m0, m1, m2, m3, m4, m5⟩ := mcell h4q
    obtain ⟨v0, v1, v2, v3, v4, v5⟩ := load6 h6q
    have f3 := box_fr h3q
    have f6 := box_fr h6q
    simp only at u0 u1 u2 u3 u4 u5
    simp only [z6] at v0 v1 v2 v3 v4 v5
    rw [HWq.out]
    clear h3q h4q h6q
    by_cases h1 : mn = sn
    rotate_left
    · have q0 : (mn != sn) = true := by simp [h1]
      rw [if_pos h1] at hR
      clear h1
      have HR := hid hR
      clear hR
      go_wp2_with (first | fail)
      refine bodyPost_ret (results_s1 rfl _ _ (g + 2) 23 ⟨mt, mf, me, sn, 0, 0⟩ rfl (set6h ⟨mt, mf, me, sn, 0, 0⟩ H6q.out) _ rfl) rfl ?_
      rw [← HR.out]
      exact ⟨_, rfl, msgQ_nil _ _, by rw [HG.out]; exact set6b ⟨mt, mf, me, sn, 0, 0⟩ HBq.out (by omega)⟩
    have q0 : (mn != sn) = false := by simp [h1]
    rw [if_neg (fun h => h h1)] at hR
    clear h1
    rw [if_neg (by decide), if_pos trivial] at hR
    go_upto_region 25 with fail
    obtain ⟨Wf, hWf⟩ : ∃ X, Wq = X := ⟨_, rfl⟩
    have h3f : Wf.heap[g]? = some (.cells (cS ⟨mt, mf, me, sn, 0, 0⟩) 23) := by rw [← hWf]; exact H3q.out
    have h6f : Wf.heap[g + 2]? = some (.cells (cS z6) 23) := by rw [← hWf]; exact H6q.out
    have hBf : Below g w Wf := by rw [← hWf]; exact HBq.out
    have HWf := hid hWf
    (try simp only [set6] at HWf)
    rw [HWf.out]
    obtain ⟨X0, hX0⟩ : ∃ X, Wf.drew = X := ⟨_, rfl⟩
    have h30 : X0.heap[g]? = some (.cells (cS ⟨mt, mf, me, sn, 0, 0⟩) 23) := by rw [← hX0]; exact h3f
    have h60 : X0.heap[g + 2]? = some (.cells (cS z6) 23) := by rw [← hX0]; exact h6f
    have HB0 : Hid (Below g w X0) := hid (by rw [← hX0]; exact below_drew hBf)
    clear h3f h6f hBf hWf
    have hHeld := load6 h30
    simp only at hHeld
    have HSN := hid (message_any ⟨mt, mf, me, sn, 0, 0⟩ 7 X0)
    simp only [sv] at HSN
    have HX0 := hid hX0
    have H30 := hid h30
    have H60 := hid h60
    have HR := hid hR
    clear hX0 h30 h60 m0 m1 m2 m3 m4 m5 u0 u1 u2 u3 u4 u5 v0 v1 v2 v3 v4 v5 f3 f6 y0 y1 y2 y3 y4 y5 hR
    refine region_tail 3 (fun X => X.cell? ⟨g, 0, none⟩ = some (.int .i64 mt) ∧ X.cell? ⟨g, 1, none⟩ = some (.int .i64 mf) ∧ X.cell? ⟨g, 2, none⟩ = some (.int .i64 me) ∧ X.cell? ⟨g, 3, none⟩ = some (.int .i64 sn) ∧ X.cell? ⟨g, 4, none⟩ = some (.int .i64 0) ∧ X.cell? ⟨g, 5, none⟩ = some (.int .i64 0)) (by kernel_rfl) ?_
    rw [HX0.out]
    refine' wpAnyT_take (i := 0) (oi := ?oif0) (v := ?vf0) ?hif0 (by kernel_rfl) (by kernel_rfl) ?hqf0 ?hyf0 hHeld ?restf0
    case hif0 => (simp only [List.getElem?_toArray, List.getElem?_cons_zero]; rfl)
    case hqf0 => exact fun _ _ _ h => h
    case hyf0 => (refine Or.inl ⟨by rfl, ?_⟩; intro w' hSw; (try dsimp only at hSw); go_simp; try with_reducible rfl)
    (try simp only [Act.put, List.setIfInBounds_toArray, List.set_cons_zero, List.set_cons_succ])
    refine' wpAnyT_take (i := 1) (oi := ?oif1) (v := ?vf1) ?hif1 (by kernel_rfl) (by kernel_rfl) ?hqf1 ?hyf1 hHeld ?restf1
    case hif1 => (simp only [List.getElem?_toArray, List.getElem?_cons_zero, List.getElem?_cons_succ]; rfl)
    case hqf1 => exact fun _ _ _ h => h
    case hyf1 => (refine Or.inl ⟨by rfl, ?_⟩; intro w' hSw; (try dsimp only at hSw); go_simp; try with_reducible rfl)
    (try simp only [Act.put, List.setIfInBounds_toArray, List.set_cons_zero, List.set_cons_succ])
    refine' wpAnyT_one (i := 2) (o := ?oif2) (by kernel_rfl) ?hif2 (fun K hK => ?stf2)
    case hif2 => (simp only [List.getElem?_toArray, List.getElem?_cons_zero, List.getElem?_cons_succ]; rfl)
    go_simp
    go_at_call 35
    (with_reducible refine HSN.out.mono ?_)
    rintro e' X1 ⟨v, rfl, hm, hb⟩
    have HM1 := hid hm
    have HB1 := hid (HB0.out.trans (hb.mono (Nat.le_of_lt (box_lt H30.out))))
    have h61 := (hb.block _ (box_lt H60.out)).trans H60.out
    have H61 := hid h61
    obtain ⟨v0, v1, v2, v3, v4, v5⟩ := load6 h61
    simp only [z6] at v0 v1 v2 v3 v4 v5
    have f6 := box_fr h61
    have hHeld := load6 ((hb.block _ (box_lt H30.out)).trans H30.out)
    simp only at hHeld
    clear hm hb h61
    refine hK.out _ _ (fun _ => hHeld) ?_
    clear hK K
    (try simp only [Act.put, List.setIfInBounds_toArray, List.set_cons_zero, List.set_cons_succ])
    refine' wpAnyT_one (i := 3) (o := ?oif3) (by kernel_rfl) ?hif3 (fun K hK => ?stf3)
    case hif3 => (simp only [List.getElem?_toArray, List.getElem?_cons_zero, List.getElem?_cons_succ]; rfl)
    go_simp
    refine hK.out _ _ (fun h => absurd h (by decide)) ?_
    clear hK K
    (try simp only [Act.put, List.setIfInBounds_toArray, List.set_cons_zero, List.set_cons_succ])
    refine' wpAnyT_one (i := 4) (o := ?oif4) (by kernel_rfl) ?hif4 (fun K hK => ?stf4)
    case hif4 => (simp only [List.getElem?_toArray, List.getElem?_cons_zero, List.getElem?_cons_succ]; rfl)
    go_simp
    refine hK.out _ _ (fun h => absurd h (by decide)) ?_
    clear hK K
    (try simp only [Act.put, List.setIfInBounds_toArray, List.set_cons_zero, List.set_cons_succ])
    refine wpAnyT_done (by kernel_rfl) ?_ _
    go_wp2_with fail
    refine bodyPost_ret (results_s1 rfl _ _ (g + 2) 23 ⟨mt, mf, me, sn, 0, 0⟩ rfl (set6h ⟨mt, mf, me, sn, 0, 0⟩ H61.out) _ rfl) rfl ?_
    rw [← HR.out]
    refine ⟨v, rfl, ?_, ?_⟩
    · refine HM1.out.keep (by have := HB0.out.size; have := HG.out; omega) (fun b x hb hx => ?_)
      have hne : b ≠ g + 2 := by have := box_lt H60.out; omega
      exact ((set6u (g := g + 2) ⟨mt, mf, me, sn, 0, 0⟩ (Upd.refl _ X1)).block b (box_lt hx) hne).trans hx
    · rw [HG.out]
      exact set6b ⟨mt, mf, me, sn, 0, 0⟩ HB1.out (by omega)
  · rw [if_neg (by decide), if_neg (by decide)] at hR
    go_enter Try.func25, Try.ntmps25
    go_upto_region 1 with fail
    rw [HG.out, HW2.out]
    go_upto_region 12 with (first | (go_at_call 14; (with_reducible refine HCK.out.mono ?_); rintro e' w3 ⟨rfl, hb⟩; have HB3 := hid (HB2.out.trans (hb.mono (Nat.le_of_lt (box_lt H3.out)))); have h3' := (hb.block _ (box_lt H3.out)).trans H3.out; have h4' := (hb.block _ (box_lt H4.out)).trans H4.out; have h6' := (hb.block _ (box_lt H6.out)).trans H6.out; have H3' := hid h3'; have H4' := hid h4'; have H6' := hid h6'; obtain ⟨u0, u1, u2, u3, u4, u5⟩ := load6 h3'; obtain ⟨m0, m1, m2, m3, m4, m5⟩ := mcell h4'; obtain ⟨v0, v1, v2, v3, v4, v5⟩ := load6 h6'; simp only at u0 u1 u2 u3 u4 u5; simp only [z6] at v0 v1 v2 v3 v4 v5; have f3 := box_fr h3'; have f6 := box_fr h6'; clear hb h3' h4' h6') | (go_at_call 38; (with_reducible refine (phase_any' ⟨mt, mf, me, sn, sp, sd⟩ 0 _).mono ?_); rintro e' w5 ⟨rfl, hb⟩; have h3' := (hb.block _ (box_lt (show (w3.setCell ⟨g, 2, none⟩ (.int .i64 me)).heap[g]? = some (.cells (cS ⟨mt, mf, me, sn, sp, sd⟩) 23) from box_set (cs := [.int .i64 mt, .int .i64 mf, .int .i64 se, .int .i64 sn, .int .i64 sp, .int .i64 sd]) H3'.out 2 _))).trans (show (w3.setCell ⟨g, 2, none⟩ (.int .i64 me)).heap[g]? = some (.cells (cS ⟨mt, mf, me, sn, sp, sd⟩) 23) from box_set (cs := [.int .i64 mt, .int .i64 mf, .int .i64 se, .int .i64 sn, .int .i64 sp, .int .i64 sd]) H3'.out 2 _); have h4' := (hb.block _ (box_lt (show (w3.setCell ⟨g, 2, none⟩ (.int .i64 me)).heap[g + 1]? = _ from keep1 H4'.out (by omega) _ _))).trans (show (w3.setCell ⟨g, 2, none⟩ (.int .i64 me)).heap[g + 1]? = _ from keep1 H4'.out (by omega) _ _); have h6' := (hb.block _ (box_lt (show (w3.setCell ⟨g, 2, none⟩ (.int .i64 me)).heap[g + 2]? = _ from keep1 H6'.out (by omega) _ _))).trans (show (w3.setCell ⟨g, 2, none⟩ (.int .i64 me)).heap[g + 2]? = _ from keep1 H6'.out (by omega) _ _); have HB5 := hid ((show Below g w (w3.setCell ⟨g, 2, none⟩ (.int .i64 me)) from HB3.out.setCell (Nat.le_refl _) _).trans (hb.mono (Nat.le_of_lt (box_lt (show (w3.setCell ⟨g, 2, none⟩ (.int .i64 me)).heap[g]? = some (.cells (cS ⟨mt, mf, me, sn, sp, sd⟩) 23) from box_set (cs := [.int .i64 mt, .int .i64 mf, .int .i64 se, .int .i64 sn, .int .i64 sp, .int .i64 sd]) H3'.out 2 _))))); have H35 := hid h3'; have H45 := hid h4'; have H65 := hid h6'; obtain ⟨u0, u1, u2, u3, u4, u5⟩ := load6 h3'; obtain ⟨m0, m1, m2, m3, m4, m5⟩ := mcell h4'; obtain ⟨v0, v1, v2, v3, v4, v5⟩ := load6 h6'; simp only at u0 u1 u2 u3 u4 u5; simp only [z6] at v0 v1 v2 v3 v4 v5; have f3 := box_fr h3'; have f6 := box_fr h6'; clear hb h3' h4' h6'))
    obtain ⟨Wq, hWq⟩ : ∃ X, set6 w5 g ⟨mt, mf, me, sn, 0, 0⟩ = X := ⟨_, rfl⟩
    have h3q : Wq.heap[g]? = some (.cells (cS ⟨mt, mf, me, sn, 0, 0⟩) 23) := by rw [← hWq]; exact set6h ⟨mt, mf, me, sn, 0, 0⟩ H35.out
    have h4q : Wq.heap[g + 1]? = some (.cells #[.int .i64 7, .int .i64 mf, .int .i64 mt, .int .i64 mn, .int .i64 u, .int .i64 me, .slice VA vn vc, .slice BA bn bc] 47) := by rw [← hWq]; exact keep6 H45.out (by omega) _
    have h6q : Wq.heap[g + 2]? = some (.cells (cS z6) 23) := by rw [← hWq]; exact keep6 H65.out (by omega) _
    have hBq : Below g w Wq := by rw [← hWq]; exact set6b ⟨mt, mf, me, sn, 0, 0⟩ HB5.out (Nat.le_refl _)
    have H3q := hid h3q
    have H4q := hid h4q
    have H6q := hid h6q
    have HBq := hid hBq
    have HWq := hid hWq
    simp only [set6] at HWq
    clear u0 u1 u2 u3 u4 u5 m0 m1 m2 m3 m4 m5 v0 v1 v2 v3 v4 v5 f3 f6 hBq hWq
    obtain ⟨u0, u1, u2, u3, u4, u5⟩ := load6 h3q
    obtain ⟨m0, m1, m2, m3, m4, m5⟩ := mcell h4q
    obtain ⟨v0, v1, v2, v3, v4, v5⟩ := load6 h6q
    have f3 := box_fr h3q
    have f6 := box_fr h6q
    simp only at u0 u1 u2 u3 u4 u5
    simp only [z6] at v0 v1 v2 v3 v4 v5
    rw [HWq.out]
    clear h3q h4q h6q
    by_cases h1 : sn ≤ mn
    rotate_left
    · have d7 : decide (mn < sn) = true := decide_eq_true (by omega)
      rw [if_neg h1] at hR
      clear h1
      have HR := hid hR
      clear hR
      go_wp2_with (first | fail)
      refine bodyPost_ret (results_s1 rfl _ _ (g + 2) 23 ⟨mt, mf, me, sn, 0, 0⟩ rfl (set6h ⟨mt, mf, me, sn, 0, 0⟩ H6q.out) _ rfl) rfl ?_
      rw [← HR.out]
      exact ⟨_, rfl, msgQ_nil _ _, by rw [HG.out]; exact set6b ⟨mt, mf, me, sn, 0, 0⟩ HBq.out (by omega)⟩
    have d7 : decide (mn < sn) = false := decide_eq_false (by omega)
    rw [if_pos h1] at hR
    clear h1
    have HR := hid hR
    clear hR
    go_wp2_with (first | (go_at_call 38; (with_reducible refine (phase_any' ⟨mt, mf, me, mn, 0, 0⟩ 0 _).mono ?_); rintro e' w5 ⟨rfl, hb⟩; have h3' := (hb.block _ (box_lt (show (Wq.setCell ⟨g, 3, none⟩ (.int .i64 mn)).heap[g]? = some (.cells (cS ⟨mt, mf, me, mn, 0, 0⟩) 23) from box_set (cs := [.int .i64 mt, .int .i64 mf, .int .i64 me, .int .i64 sn, .int .i64 0, .int .i64 0]) (H3q.out) 3 _))).trans (show (Wq.setCell ⟨g, 3, none⟩ (.int .i64 mn)).heap[g]? = some (.cells (cS ⟨mt, mf, me, mn, 0, 0⟩) 23) from box_set (cs := [.int .i64 mt, .int .i64 mf, .int .i64 me, .int .i64 sn, .int .i64 0, .int .i64 0]) (H3q.out) 3 _); have h4' := (hb.block _ (box_lt (show (Wq.setCell ⟨g, 3, none⟩ (.int .i64 mn)).heap[g + 1]? = _ from keep1 (H4q.out) (by omega) _ _))).trans (show (Wq.setCell ⟨g, 3, none⟩ (.int .i64 mn)).heap[g + 1]? = _ from keep1 (H4q.out) (by omega) _ _); have h6' := (hb.block _ (box_lt (show (Wq.setCell ⟨g, 3, none⟩ (.int .i64 mn)).heap[g + 2]? = _ from keep1 (H6q.out) (by omega) _ _))).trans (show (Wq.setCell ⟨g, 3, none⟩ (.int .i64 mn)).heap[g + 2]? = _ from keep1 (H6q.out) (by omega) _ _); have HB5 := hid ((show Below g w (Wq.setCell ⟨g, 3, none⟩ (.int .i64 mn)) from (HBq.out).setCell (Nat.le_refl _) _).trans (hb.mono (Nat.le_of_lt (box_lt (show (Wq.setCell ⟨g, 3, none⟩ (.int .i64 mn)).heap[g]? = some (.cells (cS ⟨mt, mf, me, mn, 0, 0⟩) 23) from box_set (cs := [.int .i64 mt, .int .i64 mf, .int .i64 me, .int .i64 sn, .int .i64 0, .int .i64 0]) (H3q.out) 3 _))))); have H35 := hid h3'; have H45 := hid h4'; have H65 := hid h6'; obtain ⟨u0, u1, u2, u3, u4, u5⟩ := load6 h3'; obtain ⟨m0, m1, m2, m3, m4, m5⟩ := mcell h4'; obtain ⟨v0, v1, v2, v3, v4, v5⟩ := load6 h6'; simp only at u0 u1 u2 u3 u4 u5; simp only [z6] at v0 v1 v2 v3 v4 v5; have f3 := box_fr h3'; have f6 := box_fr h6'; clear hb h3' h4' h6'))
    refine bodyPost_ret (results_s1 rfl _ _ (g + 2) 23 ⟨mt, mf, me, mn, 0, 0⟩ rfl (set6h ⟨mt, mf, me, mn, 0, 0⟩ H65.out) _ rfl) rfl ?_
    rw [← HR.out]
    exact ⟨_, rfl, msgQ_nil _ _, by rw [HG.out]; exact set6b ⟨mt, mf, me, mn, 0, 0⟩ HB5.out (by omega)⟩
theorem rreceive_any (s : Ses) (now : Int) (m : Mes) (u : Int) (VA : Option Addr) (vn vc : Nat) (BA : Option Addr) (bn bc : Nat) (w : World) :
    Calls Try.prog 25 #[sv s, .int .i64 now, mv m u VA vn vc BA bn bc] w (RecQ (recR s m) w) := by
  by_cases hg : chk s = 0 ∧ (m.k = 5 ∨ m.k = 6 ∨ m.k = 7) ∧ m.f = s.r ∧ m.t = s.l ∧ timeB m.e = true ∧ timeB m.n = true
  · rcases Int.lt_trichotomy m.e s.e with h | h | h
    · exact rreceive_old s now m u VA vn vc BA bn bc w hg h
    · exact rreceive_eq s now m u VA vn vc BA bn bc w hg h
    · exact rreceive_gt s now m u VA vn vc BA bn bc w hg h
  · exact rreceive_bad s now m u VA vn vc BA bn bc w hg
end Go.Proofs.Ytkdladacmjkdoaa
