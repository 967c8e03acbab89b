/- The walk of the law WireLists. -/
import Derived.Test.YtchpoddfjbopbaaVg
namespace Go.Proofs.Ytchpoddfjbopbaa
open Go.RowKit Go.Lib

theorem equal_li (a : List Nat) (v u : Value) (w : World) (hv : Byt w v a) (hu : Byt w u a) : Calls Try.prog 12 #[v, u] w (Says true w) := by
  have h := equal_any a a v u w hv hu
  rwa [decide_eq_true rfl] at h
theorem rsecs_y {x : Vals} {w : World} (hx : Val w x) (hf : fewB x = true) (l : List Nat) (v : Value) (hv : Byt w v l) (hn : NilOk v) (hl : l.length ≤ 300) : Calls Try.prog 21 #[v, x.vs] w (MadeY w (l ++ eList eSec x.ls)) := by
  have hb := few_true hf
  have hle := lens hx hf
  exact (rputSecs_any x.ls l v x.vs w hv hn hx.2.1 (by omega) (by omega)).mono fun _ _ h => h.made (hv.1.append (b8_list (fun y hy => (hx.2.1.1 y hy).2)))
theorem rexts_y {x : Vals} {w : World} (hx : Val w x) (hf : fewB x = true) (l : List Nat) (v : Value) (hv : Byt w v l) (hn : NilOk v) (hl : l.length ≤ 300) : Calls Try.prog 23 #[v, x.ve] w (MadeY w (l ++ eList eExtI x.le)) := by
  have hb := few_true hf
  have hle := lens hx hf
  exact rputExts_any x.le l v x.ve w hv hn hx.2.2.1 (by omega) (by omega)
theorem rwris_y {x : Vals} {w : World} (hx : Val w x) (hf : fewB x = true) (l : List Nat) (v : Value) (hv : Byt w v l) (hn : NilOk v) (hl : l.length ≤ 300) : Calls Try.prog 25 #[v, x.vw] w (MadeY w (l ++ eList eWri x.lw)) := by
  have hb := few_true hf
  have hle := lens hx hf
  exact rputWris_any x.lw l v x.vw w hv hn hx.2.2.2.2 (fun y hy => ⟨hx.2.2.2.1 y hy, by have := hb.2.2.2.2 y hy; omega⟩) (by omega) (by omega)

set_option maxHeartbeats 8000000 in
set_option maxRecDepth 100000 in
theorem lists_walk (d : List Nat) (x : Vals) (v : Value) (w : World) (hv : Byt w v d) (hn : NilOk v) (hx : Val w x) :
    Calls Try.prog 4 #[v, valV x] w (GoodB w) := by
  have HA := hid awake_any
  have HF := hid (fun (W : World) (h : Val W x) => few_any x W h)
  obtain ⟨A0, k0, A1, k1, A2, k2, A3, k3, e0, e1, e2, e3⟩ := val_form hx
  obtain ⟨vi, vs, ve, vw, li, ls, le, lw⟩ := x
  dsimp only at e0 e1 e2 e3
  subst e0 e1 e2 e3
  obtain ⟨A, c, rfl⟩ := byt_form hv
  have HX0 := hid hx
  have HV0 := hid hv
  have HN := hid hn
  have hdl := byt_len hv
  show Calls Try.prog 4 #[.slice A d.length c, .agg #[.slice A0 li.length k0, .slice A1 ls.length k1, .slice A2 le.length k2, .slice A3 lw.length k3]] w _
  have HB0 : Hid (Below w.heap.size w (w.alloc (.cells #[.slice A0 li.length k0, .slice A1 ls.length k1, .slice A2 le.length k2, .slice A3 lw.length k3] 34))) := hid (al1 _ _)
  have HBX := hid (heap_alloc_new w (.cells #[.slice A0 li.length k0, .slice A1 ls.length k1, .slice A2 le.length k2, .slice A3 lw.length k3] 34))
  have HX := hid (HX0.out.below HB0.out)
  have HV := hid (HV0.out.below HB0.out)
  have HFx := hid (HF.out _ HX.out)
  obtain ⟨W, hW⟩ : ∃ W, w.alloc (.cells #[.slice A0 li.length k0, .slice A1 ls.length k1, .slice A2 le.length k2, .slice A3 lw.length k3] 34) = W := ⟨_, rfl⟩
  rw [hW] at HB0 HBX HX HV HFx
  clear hv hn hx HF HX0 HV0
  have y0 : W.cell? ⟨w.heap.size, 0, none⟩ = some (.slice A0 li.length k0) := cell_of_row _ _ 0 _ _ _ HBX.out
  have y1 : W.cell? ⟨w.heap.size, 1, none⟩ = some (.slice A1 ls.length k1) := cell_of_row _ _ 1 _ _ _ HBX.out
  have y2 : W.cell? ⟨w.heap.size, 2, none⟩ = some (.slice A2 le.length k2) := cell_of_row _ _ 2 _ _ _ HBX.out
  have y3 : W.cell? ⟨w.heap.size, 3, none⟩ = some (.slice A3 lw.length k3) := cell_of_row _ _ 3 _ _ _ HBX.out
  by_cases hbig : 200 < d.length
  · have d1 : decide ((200 : Int) < (d.length : Int)) = true := by simp; omega
    go_enter Try.func4, Try.ntmps4
    go_wp2_with fail
    refine (HA.out _).mono ?_
    rintro e w1 ⟨rfl, hb1⟩
    have HB1 := hid (below_both HB0.out hb1)
    clear hb1
    go_wp2
    go_ret
    exact ⟨rfl, HB1.out⟩
  · have d1 : decide ((200 : Int) < (d.length : Int)) = false := by simp; omega
    rcases hf : fewB ⟨.slice A0 li.length k0, .slice A1 ls.length k1, .slice A2 le.length k2, .slice A3 lw.length k3, li, ls, le, lw⟩ with _ | _
    · rw [hf] at HFx
      clear hf
      go_enter Try.func4, Try.ntmps4
      go_wp2_with fail
      refine HFx.out.mono ?_
      rintro e w1 ⟨rfl, hb1⟩
      have HB1 := hid (below_both HB0.out hb1)
      clear hb1 y0 y1 y2 y3
      go_wp2_with fail
      refine (HA.out _).mono ?_
      rintro e w2 ⟨rfl, hb2⟩
      have HB2 := hid (below_both HB1.out hb2)
      clear hb2
      go_wp2
      go_ret
      exact ⟨rfl, HB2.out⟩
    · rw [hf] at HFx
      have HFF := hid hf
      have HLEN := hid (lens HX.out hf)
      dsimp only at HLEN
      clear hf
      go_enter Try.func4, Try.ntmps4
      go_wp2_with fail
      refine HFx.out.mono ?_
      rintro e w1 ⟨rfl, hb1⟩
      have HB1 := hid (below_both HB0.out hb1)
      have HBX1 := hid ((hb1.block _ (box_lt HBX.out)).trans HBX.out)
      have HX1 := hid (HX.out.below hb1)
      have HV1 := hid (HV.out.below hb1)
      clear hb1 y0 y1 y2 y3 HBX HX HV HFx hW HB0
      obtain ⟨W0, hW0⟩ : ∃ W0, w1 = W0 := ⟨_, rfl⟩
      subst hW0
      have HLT := hid (box_lt HBX1.out)
      have HY := hid (fun (X : World) (h : Below w1.heap.size w1 X) => show X.cell? ⟨w.heap.size, 1, none⟩ = some (.slice A1 ls.length k1) ∧ X.cell? ⟨w.heap.size, 2, none⟩ = some (.slice A2 le.length k2) ∧ X.cell? ⟨w.heap.size, 3, none⟩ = some (.slice A3 lw.length k3) from ⟨(h.cell (p := ⟨w.heap.size, 1, none⟩) HLT.out).trans (cell_of_row _ _ 1 _ _ _ HBX1.out), (h.cell (p := ⟨w.heap.size, 2, none⟩) HLT.out).trans (cell_of_row _ _ 2 _ _ _ HBX1.out), (h.cell (p := ⟨w.heap.size, 3, none⟩) HLT.out).trans (cell_of_row _ _ 3 _ _ _ HBX1.out)⟩)
      have HS0 : Hid (Below w1.heap.size w1 w1.drew) := hid (below_drew (Below.refl _ _))
      obtain ⟨y1, y2, y3⟩ := HY.out _ (Below.refl _ _)
      obtain ⟨b0, hbe0⟩ : ∃ b0, eList eSec ls = b0 := ⟨_, rfl⟩
      have HE0 := hid hbe0
      obtain ⟨b1, hbe1⟩ : ∃ b1, eList eExtI le = b1 := ⟨_, rfl⟩
      have HE1 := hid hbe1
      obtain ⟨b2, hbe2⟩ : ∃ b2, eList eWri lw = b2 := ⟨_, rfl⟩
      have HE2 := hid hbe2
      clear hbe0 hbe1 hbe2
      go_wp2_with fail
      go_region_held3 (fun X => X.cell? ⟨w.heap.size, 1, none⟩ = some (.slice A1 ls.length k1) ∧ X.cell? ⟨w.heap.size, 2, none⟩ = some (.slice A2 le.length k2) ∧ X.cell? ⟨w.heap.size, 3, none⟩ = some (.slice A3 lw.length k3)) (go_keep)
        (first
          | (go_at_call 20; have HP := hid ((puts_secs (HX1.out.below HS0.out) HFF.out) d _ (HV1.out.below HS0.out) HN.out (by omega)); rw [show (eList eSec ls : List Nat) = b0 from HE0.out] at HP; refine HP.out.mono ?_; rintro e x10 ⟨v1, rfl, hv1, hn1, hb1⟩; obtain ⟨a10, c10, hv1e⟩ := byt_form hv1; rw [List.length_append] at hv1e; subst hv1e; have HVa0 := hid hv1; have HBa0 := hid (HS0.out.trans (hb1.mono HS0.out.size)); clear y1 y2 y3; obtain ⟨y1, y2, y3⟩ := HY.out _ HBa0.out; clear hv1 hn1 hb1 HP HS0)
          | (go_at_call 21; have HP := hid (rsecs_y (HX1.out.below HBa0.out) HFF.out d _ (HV1.out.below HBa0.out) HN.out (by omega)); rw [show (eList eSec ls : List Nat) = b0 from HE0.out] at HP; refine HP.out.mono ?_; rintro e w20 ⟨v2, rfl, hv2, hn2, hb2⟩; obtain ⟨a20, c20, hv2e⟩ := byt_form hv2; rw [List.length_append] at hv2e; subst hv2e; have HVb0 := hid hv2; have HVc0 := hid (HVa0.out.below hb2); have HBb0 := hid (HBa0.out.trans (hb2.mono HBa0.out.size)); clear y1 y2 y3; obtain ⟨y1, y2, y3⟩ := HY.out _ HBb0.out; clear hv2 hn2 hb2 HP HVa0 HBa0)
          | (go_at_call 12; refine (equal_li (d ++ b0) _ _ w20 HVc0.out HVb0.out).mono ?_; rintro e w5 ⟨rfl, rfl⟩; have HS1 := HBb0; clear HVb0 HVc0 HBb0)
          | (go_at_call 22; have HP := hid ((puts_exts (HX1.out.below HS1.out) HFF.out) d _ (HV1.out.below HS1.out) HN.out (by omega)); rw [show (eList eExtI le : List Nat) = b1 from HE1.out] at HP; refine HP.out.mono ?_; rintro e x11 ⟨v1, rfl, hv1, hn1, hb1⟩; obtain ⟨a11, c11, hv1e⟩ := byt_form hv1; rw [List.length_append] at hv1e; subst hv1e; have HVa1 := hid hv1; have HBa1 := hid (HS1.out.trans (hb1.mono HS1.out.size)); clear y1 y2 y3; obtain ⟨y1, y2, y3⟩ := HY.out _ HBa1.out; clear hv1 hn1 hb1 HP HS1)
          | (go_at_call 23; have HP := hid (rexts_y (HX1.out.below HBa1.out) HFF.out d _ (HV1.out.below HBa1.out) HN.out (by omega)); rw [show (eList eExtI le : List Nat) = b1 from HE1.out] at HP; refine HP.out.mono ?_; rintro e w21 ⟨v2, rfl, hv2, hn2, hb2⟩; obtain ⟨a21, c21, hv2e⟩ := byt_form hv2; rw [List.length_append] at hv2e; subst hv2e; have HVb1 := hid hv2; have HVc1 := hid (HVa1.out.below hb2); have HBb1 := hid (HBa1.out.trans (hb2.mono HBa1.out.size)); clear y1 y2 y3; obtain ⟨y1, y2, y3⟩ := HY.out _ HBb1.out; clear hv2 hn2 hb2 HP HVa1 HBa1)
          | (go_at_call 12; refine (equal_li (d ++ b1) _ _ w21 HVc1.out HVb1.out).mono ?_; rintro e w5 ⟨rfl, rfl⟩; have HS2 := HBb1; clear HVb1 HVc1 HBb1)
          | (go_at_call 24; have HP := hid ((puts_wris (HX1.out.below HS2.out) HFF.out) d _ (HV1.out.below HS2.out) HN.out (by omega)); rw [show (eList eWri lw : List Nat) = b2 from HE2.out] at HP; refine HP.out.mono ?_; rintro e x12 ⟨v1, rfl, hv1, hn1, hb1⟩; obtain ⟨a12, c12, hv1e⟩ := byt_form hv1; rw [List.length_append] at hv1e; subst hv1e; have HVa2 := hid hv1; have HBa2 := hid (HS2.out.trans (hb1.mono HS2.out.size)); clear y1 y2 y3; obtain ⟨y1, y2, y3⟩ := HY.out _ HBa2.out; clear hv1 hn1 hb1 HP HS2)
          | (go_at_call 25; have HP := hid (rwris_y (HX1.out.below HBa2.out) HFF.out d _ (HV1.out.below HBa2.out) HN.out (by omega)); rw [show (eList eWri lw : List Nat) = b2 from HE2.out] at HP; refine HP.out.mono ?_; rintro e w22 ⟨v2, rfl, hv2, hn2, hb2⟩; obtain ⟨a22, c22, hv2e⟩ := byt_form hv2; rw [List.length_append] at hv2e; subst hv2e; have HVb2 := hid hv2; have HVc2 := hid (HVa2.out.below hb2); have HBb2 := hid (HBa2.out.trans (hb2.mono HBa2.out.size)); clear y1 y2 y3; obtain ⟨y1, y2, y3⟩ := HY.out _ HBb2.out; clear hv2 hn2 hb2 HP HVa2 HBa2)
          | (go_at_call 12; refine (equal_li (d ++ b2) _ _ w22 HVc2.out HVb2.out).mono ?_; rintro e w5 ⟨rfl, rfl⟩; have HS3 := HBb2; clear HVb2 HVc2 HBb2)
          | (go_at_call 11; refine (HA.out _).mono ?_; rintro e w9 ⟨rfl, hb9⟩; have HB9 := hid (HS3.out.trans (hb9.mono HS3.out.size)); clear y1 y2 y3; obtain ⟨y1, y2, y3⟩ := HY.out _ HB9.out; clear hb9))
      go_wp2
      go_ret
      exact ⟨rfl, below_both HB1.out HB9.out⟩
end Go.Proofs.Ytchpoddfjbopbaa
