/- The walk of the law WireAppends. -/
import Derived.Test.YtchpoddfjbopbaaVc
import Derived.Deep.RegionHeld3
import Derived.Deep.RegionLawGrows
namespace Go.Proofs.Ytchpoddfjbopbaa
open Go.RowKit Go.Lib

theorem step_append_bytG {ops : Array Oper} {o : Oper} {a : Act} {w : World} {K : Act → World → Prop} {Q : Exit → Act → World → Prop} {E : Prop} (hw : Region.wanted o (yielded ops a.tmps) = true) (s x : Operand) (ho : o.op = .call { callee := .builtin .append, args := #[s, x], argTypes := #[22, 22] })
    (base : Nat) (v : Value) (k : Nat) (xs : List Value) (hs : a.eval s = v) (hown : w.ownsRow base 5 1 v k xs) (l : List Nat) (ad : Addr) (m c : Nat) (hx : a.eval x = .slice (some ad) m c) (hsrc : Byt w (.slice (some ad) m c) l) (hk : k + l.length ≤ 100000) (hbase : base ≤ w.heap.size)
    (h : ∀ v' w', w'.ownsRow base 5 1 v' (k + l.length) (xs ++ l.map byteV) → w.grownBy w' v.ownBlock → K (a.put o.dst v') w') :
    if Region.wanted o (yielded ops a.tmps) = true then Oper.wp Try.prog o a w K Q else E := by
  have h1 := step_append_byt (ops := ops) (o := { o with guard := none }) (a := a) (w := w) (K := K) (Q := Q) (E := E) rfl s x ho base v k xs hs hown l ad m c hx hsrc hk hbase h
  rw [if_pos hw]
  rw [if_pos (by simp [Region.wanted])] at h1
  exact h1
theorem equal_same (a : List Nat) (v u : Value) (w : World) (hv : Byt w v a) (hu : Byt w u a) : Calls Try.prog 12 #[v, u] w (Says true w) := by
  have h := equal_any a a v u w hv hu
  rwa [decide_eq_true rfl] at h
theorem byt_addr {w : World} {v : Value} {l : List Nat} (h : Byt w v l) (hp : 0 < l.length) : ∃ a m c, v = .slice (some a) m c := by
  obtain ⟨_, A, cap, rfl, h1, h2, b, off, hA, _⟩ := h
  rw [(hA hp).1]
  exact ⟨_, _, _, rfl⟩
theorem list_pos {α : Type} (E : α → List Nat) (xs : List α) : 0 < (eList E xs).length := by rw [list_len]; have := enc_pos xs.length; omega

set_option maxHeartbeats 8000000 in
set_option maxRecDepth 100000 in
theorem appends_walk (d : List Nat) (x : Vals) (n : Int) (v : Value) (w : World) (hv : Byt w v d) (hn : NilOk v) (hx : Val w x) :
    Calls Try.prog 8 #[v, valV x, .int .i64 n] w (GoodB w) := by
  have HA := hid awake_any
  have HF := hid (fun (W : World) (h : Val W x) => few_any x W h)
  obtain ⟨A0, k0, A1, k1, A2, k2, A3, k3, e0, e1, e2, e3⟩ := val_form hx
  obtain ⟨vi, vs, ve, vw, li, ls, le, lw⟩ := x
  dsimp only at e0 e1 e2 e3
  subst e0 e1 e2 e3
  obtain ⟨A, c, rfl⟩ := byt_form hv
  have HX0 := hid hx
  have HV0 := hid hv
  have HN := hid hn
  have hdl := byt_len hv
  show Calls Try.prog 8 #[.slice A d.length c, .agg #[.slice A0 li.length k0, .slice A1 ls.length k1, .slice A2 le.length k2, .slice A3 lw.length k3], .int .i64 n] w _
  have HB0 : Hid (Below w.heap.size w (w.alloc (.cells #[.slice A0 li.length k0, .slice A1 ls.length k1, .slice A2 le.length k2, .slice A3 lw.length k3] 34))) := hid (al1 _ _)
  have HBX := hid (heap_alloc_new w (.cells #[.slice A0 li.length k0, .slice A1 ls.length k1, .slice A2 le.length k2, .slice A3 lw.length k3] 34))
  have HX := hid (HX0.out.below HB0.out)
  have HV := hid (HV0.out.below HB0.out)
  have HFx := hid (HF.out _ HX.out)
  obtain ⟨W, hW⟩ : ∃ W, w.alloc (.cells #[.slice A0 li.length k0, .slice A1 ls.length k1, .slice A2 le.length k2, .slice A3 lw.length k3] 34) = W := ⟨_, rfl⟩
  rw [hW] at HB0 HBX HX HV HFx
  clear hv hn hx HF HX0 HV0
  have y0 : W.cell? ⟨w.heap.size, 0, none⟩ = some (.slice A0 li.length k0) := cell_of_row _ _ 0 _ _ _ HBX.out
  have y1 : W.cell? ⟨w.heap.size, 1, none⟩ = some (.slice A1 ls.length k1) := cell_of_row _ _ 1 _ _ _ HBX.out
  have y2 : W.cell? ⟨w.heap.size, 2, none⟩ = some (.slice A2 le.length k2) := cell_of_row _ _ 2 _ _ _ HBX.out
  have y3 : W.cell? ⟨w.heap.size, 3, none⟩ = some (.slice A3 lw.length k3) := cell_of_row _ _ 3 _ _ _ HBX.out
  by_cases hbig : 200 < d.length
  · have d1 : decide ((200 : Int) < (d.length : Int)) = true := by simp; omega
    go_enter Try.func8, Try.ntmps8
    go_wp2_with fail
    refine (HA.out _).mono ?_
    rintro e w1 ⟨rfl, hb1⟩
    have HB1 := hid (below_both HB0.out hb1)
    clear hb1
    go_wp2
    go_ret
    exact ⟨rfl, HB1.out⟩
  · have d1 : decide ((200 : Int) < (d.length : Int)) = false := by simp; omega
    rcases hf : fewB ⟨.slice A0 li.length k0, .slice A1 ls.length k1, .slice A2 le.length k2, .slice A3 lw.length k3, li, ls, le, lw⟩ with _ | _
    · rw [hf] at HFx
      clear hf
      go_enter Try.func8, Try.ntmps8
      go_wp2_with fail
      refine HFx.out.mono ?_
      rintro e w1 ⟨rfl, hb1⟩
      have HB1 := hid (below_both HB0.out hb1)
      clear hb1 y0 y1 y2 y3
      go_wp2_with fail
      refine (HA.out _).mono ?_
      rintro e w2 ⟨rfl, hb2⟩
      have HB2 := hid (below_both HB1.out hb2)
      clear hb2
      go_wp2
      go_ret
      exact ⟨rfl, HB2.out⟩
    · rw [hf] at HFx
      have HFF := hid hf
      have HLEN := hid (lens HX.out hf)
      dsimp only at HLEN
      clear hf
      go_enter Try.func8, Try.ntmps8
      go_wp2_with fail
      refine HFx.out.mono ?_
      rintro e w1 ⟨rfl, hb1⟩
      have HB1 := hid (below_both HB0.out hb1)
      have HBX1 := hid ((hb1.block _ (box_lt HBX.out)).trans HBX.out)
      have HX1 := hid (HX.out.below hb1)
      have HV1 := hid (HV.out.below hb1)
      clear hb1 y0 y1 y2 y3 HBX HX HV HFx hW HB0
      have HC := hid (clone_any d _ w1 HV1.out HN.out (by omega))
      go_wp2_with fail
      refine HC.out.mono ?_
      rintro e W0 ⟨vo, rfl, hoo, hbo⟩
      have HO : Hid (Byt W0 vo d) := hid (byt_of_own hoo HV1.out.1)
      have HNO := hid (own_nilOk hoo)
      obtain ⟨ao, co, rfl⟩ := own_form hoo
      have HBX := hid ((hbo.block _ (box_lt HBX1.out)).trans HBX1.out)
      have HX := hid (HX1.out.below hbo)
      have HV := hid (HV1.out.below hbo)
      have HBo := hid (below_both HB1.out hbo)
      have HLT := hid (box_lt HBX.out)
      have HB := hid (Below.refl W0.heap.size W0)
      clear hbo hoo HC HBX1 HX1 HV1 HB1
      have HY := hid (fun (X : World) (h : Below W0.heap.size W0 X) => show X.cell? ⟨w.heap.size, 0, none⟩ = some (.slice A0 li.length k0) ∧ X.cell? ⟨w.heap.size, 1, none⟩ = some (.slice A1 ls.length k1) ∧ X.cell? ⟨w.heap.size, 2, none⟩ = some (.slice A2 le.length k2) ∧ X.cell? ⟨w.heap.size, 3, none⟩ = some (.slice A3 lw.length k3) from ⟨(h.cell (p := ⟨w.heap.size, 0, none⟩) HLT.out).trans (cell_of_row _ _ 0 _ _ _ HBX.out), (h.cell (p := ⟨w.heap.size, 1, none⟩) HLT.out).trans (cell_of_row _ _ 1 _ _ _ HBX.out), (h.cell (p := ⟨w.heap.size, 2, none⟩) HLT.out).trans (cell_of_row _ _ 2 _ _ _ HBX.out), (h.cell (p := ⟨w.heap.size, 3, none⟩) HLT.out).trans (cell_of_row _ _ 3 _ _ _ HBX.out)⟩)
      have HS0 : Hid (Below W0.heap.size W0 W0.drew) := hid (below_drew HB.out)
      obtain ⟨y0, y1, y2, y3⟩ := HY.out _ HB.out
      have hn8 : (enc (cl n)).length ≤ 8 := enc_le8 (cl_le n)
      have hn1 := enc_pos (cl n)
      have hd8 : (eBytes d).length ≤ 300 := by unfold eBytes; rw [List.length_append]; have := enc_len (n := d.length) (by omega); omega
      have hd1 : 0 < (eBytes d).length := by unfold eBytes; rw [List.length_append]; have := enc_pos d.length; omega
      obtain ⟨b0, hbe0⟩ : ∃ b0, enc (cl n) = b0 := ⟨_, rfl⟩
      have hbl0 : b0.length ≤ 4000 := by rw [← hbe0]; exact Nat.le_trans hn8 (by omega)
      have hbp0 : 0 < b0.length := by rw [← hbe0]; exact hn1
      have HE0 := hid hbe0
      obtain ⟨b1, hbe1⟩ : ∃ b1, eBytes d = b1 := ⟨_, rfl⟩
      have hbl1 : b1.length ≤ 4000 := by rw [← hbe1]; exact Nat.le_trans hd8 (by omega)
      have hbp1 : 0 < b1.length := by rw [← hbe1]; exact hd1
      have HE1 := hid hbe1
      obtain ⟨b2, hbe2⟩ : ∃ b2, eList eNum li = b2 := ⟨_, rfl⟩
      have hbl2 : b2.length ≤ 4000 := by rw [← hbe2]; exact HLEN.out.1
      have hbp2 : 0 < b2.length := by rw [← hbe2]; exact (list_pos eNum li)
      have HE2 := hid hbe2
      obtain ⟨b3, hbe3⟩ : ∃ b3, eList eSec ls = b3 := ⟨_, rfl⟩
      have hbl3 : b3.length ≤ 4000 := by rw [← hbe3]; exact HLEN.out.2.1
      have hbp3 : 0 < b3.length := by rw [← hbe3]; exact (list_pos eSec ls)
      have HE3 := hid hbe3
      obtain ⟨b4, hbe4⟩ : ∃ b4, eList eExtI le = b4 := ⟨_, rfl⟩
      have hbl4 : b4.length ≤ 4000 := by rw [← hbe4]; exact HLEN.out.2.2.1
      have hbp4 : 0 < b4.length := by rw [← hbe4]; exact (list_pos eExtI le)
      have HE4 := hid hbe4
      obtain ⟨b5, hbe5⟩ : ∃ b5, eList eWri lw = b5 := ⟨_, rfl⟩
      have hbl5 : b5.length ≤ 4000 := by rw [← hbe5]; exact HLEN.out.2.2.2
      have hbp5 : 0 < b5.length := by rw [← hbe5]; exact (list_pos eWri lw)
      have HE5 := hid hbe5
      clear hbe0 hbe1 hbe2 hbe3 hbe4 hbe5 hn8 hd8 hn1 hd1 HB
      go_wp2_with fail
      simp only [List.append]
      go_region_held3 (fun X => X.cell? ⟨w.heap.size, 0, none⟩ = some (.slice A0 li.length k0) ∧ X.cell? ⟨w.heap.size, 1, none⟩ = some (.slice A1 ls.length k1) ∧ X.cell? ⟨w.heap.size, 2, none⟩ = some (.slice A2 le.length k2) ∧ X.cell? ⟨w.heap.size, 3, none⟩ = some (.slice A3 lw.length k3)) (go_keep)
        (first
          | (go_at_call 13; have HP := hid ((puts_int n W0.drew) d _ (HV.out.below HS0.out) HN.out (by omega)); rw [show (enc (cl n) : List Nat) = b0 from HE0.out] at HP; refine HP.out.mono ?_; rintro e w10 ⟨v1, rfl, hv1, hn1, hb1⟩; obtain ⟨a10, c10, hv1e⟩ := byt_form hv1; rw [List.length_append] at hv1e; subst hv1e; have HV10 := hid hv1; have HB10 := hid (HS0.out.trans (hb1.mono HS0.out.size)); clear y0 y1 y2 y3; obtain ⟨y0, y1, y2, y3⟩ := HY.out _ HB10.out; clear hv1 hn1 hb1 HP HS0)
          | (go_at_call 50; refine (clone_any d _ w10 (HO.out.below HB10.out) HNO.out (by omega)).mono ?_; rintro e w20 ⟨v2, rfl, ho2, hb2⟩; obtain ⟨a20, c20, rfl⟩ := own_form ho2; have HO20 := hid ho2; have HB120 := hid hb2; have HB20 := hid (HB10.out.trans (hb2.mono HB10.out.size)); clear y0 y1 y2 y3; obtain ⟨y0, y1, y2, y3⟩ := HY.out _ HB20.out; clear ho2 hb2)
          | (go_at_call 13; have HP := hid ((puts_int n w20) [] (.slice none 0 0) (byt_nil _) nilOk_nil (by simp)); rw [show (enc (cl n) : List Nat) = b0 from HE0.out, List.nil_append] at HP; refine HP.out.mono ?_; rintro e w30 ⟨v3, rfl, hv3, hn3, hb3⟩; obtain ⟨ad30, m30, c30, hv3e⟩ := byt_addr hv3 (by omega); subst hv3e; have HV30 := hid hv3; have HO30 := hid (own_keep HO20.out (keep_below hb3)); have HB130 := hid (HB120.out.trans (hb3.mono HB120.out.size)); have HB30 := hid (HB20.out.trans (hb3.mono HB20.out.size)); clear y0 y1 y2 y3; obtain ⟨y0, y1, y2, y3⟩ := HY.out _ HB30.out; clear hv3 hn3 hb3 HP HB20)
          | (refine step_append_bytG (by rfl) (.tmp 24) (.tmp 26) rfl w10.heap.size (.slice a20 d.length c20) d.length _ (by simp [Act.eval]) HO30.out b0 ad30 m30 c30 (by simp [Act.eval]) HV30.out (by omega) HB130.out.size ?_; intro v4 w40 hown4 hg4; obtain ⟨a40, c40, hv4e⟩ := own_form hown4; subst hv4e; have HB140 := hid (below_own HB130.out HO30.out hg4 HB130.out.size (Nat.le_refl _)); have HV40 : Hid (Byt w40 (.slice a40 (d.length + b0.length) c40) (d ++ b0)) := hid (byt_of_own (by have h := hown4; rw [own_snoc] at h; exact h) HV10.out.1); have HBn0 := hid (HB10.out.trans (HB140.out.mono HB10.out.size)); clear y0 y1 y2 y3; obtain ⟨y0, y1, y2, y3⟩ := HY.out _ HBn0.out; clear hown4 hg4 HO30 HV30 HB130 HB30 HB120 HO20)
          | (go_at_call 12; refine (equal_same (d ++ b0) _ _ w40 (HV10.out.below HB140.out) HV40.out).mono ?_; rintro e w5 ⟨rfl, rfl⟩; have HS1 := HBn0; clear HV10 HB140 HV40 HBn0 HB10)
          | (go_at_call 15; have HP := hid ((puts_bytes (HO.out.below HS1.out) HNO.out (by omega)) d _ (HV.out.below HS1.out) HN.out (by omega)); rw [show (eBytes d : List Nat) = b1 from HE1.out] at HP; refine HP.out.mono ?_; rintro e w11 ⟨v1, rfl, hv1, hn1, hb1⟩; obtain ⟨a11, c11, hv1e⟩ := byt_form hv1; rw [List.length_append] at hv1e; subst hv1e; have HV11 := hid hv1; have HB11 := hid (HS1.out.trans (hb1.mono HS1.out.size)); clear y0 y1 y2 y3; obtain ⟨y0, y1, y2, y3⟩ := HY.out _ HB11.out; clear hv1 hn1 hb1 HP HS1)
          | (go_at_call 50; refine (clone_any d _ w11 (HO.out.below HB11.out) HNO.out (by omega)).mono ?_; rintro e w21 ⟨v2, rfl, ho2, hb2⟩; obtain ⟨a21, c21, rfl⟩ := own_form ho2; have HO21 := hid ho2; have HB121 := hid hb2; have HB21 := hid (HB11.out.trans (hb2.mono HB11.out.size)); clear y0 y1 y2 y3; obtain ⟨y0, y1, y2, y3⟩ := HY.out _ HB21.out; clear ho2 hb2)
          | (go_at_call 15; have HP := hid ((puts_bytes (HO.out.below HB21.out) HNO.out (by omega)) [] (.slice none 0 0) (byt_nil _) nilOk_nil (by simp)); rw [show (eBytes d : List Nat) = b1 from HE1.out, List.nil_append] at HP; refine HP.out.mono ?_; rintro e w31 ⟨v3, rfl, hv3, hn3, hb3⟩; obtain ⟨ad31, m31, c31, hv3e⟩ := byt_addr hv3 (by omega); subst hv3e; have HV31 := hid hv3; have HO31 := hid (own_keep HO21.out (keep_below hb3)); have HB131 := hid (HB121.out.trans (hb3.mono HB121.out.size)); have HB31 := hid (HB21.out.trans (hb3.mono HB21.out.size)); clear y0 y1 y2 y3; obtain ⟨y0, y1, y2, y3⟩ := HY.out _ HB31.out; clear hv3 hn3 hb3 HP HB21)
          | (refine step_append_bytG (by rfl) (.tmp 34) (.tmp 36) rfl w11.heap.size (.slice a21 d.length c21) d.length _ (by simp [Act.eval]) HO31.out b1 ad31 m31 c31 (by simp [Act.eval]) HV31.out (by omega) HB131.out.size ?_; intro v4 w41 hown4 hg4; obtain ⟨a41, c41, hv4e⟩ := own_form hown4; subst hv4e; have HB141 := hid (below_own HB131.out HO31.out hg4 HB131.out.size (Nat.le_refl _)); have HV41 : Hid (Byt w41 (.slice a41 (d.length + b1.length) c41) (d ++ b1)) := hid (byt_of_own (by have h := hown4; rw [own_snoc] at h; exact h) HV11.out.1); have HBn1 := hid (HB11.out.trans (HB141.out.mono HB11.out.size)); clear y0 y1 y2 y3; obtain ⟨y0, y1, y2, y3⟩ := HY.out _ HBn1.out; clear hown4 hg4 HO31 HV31 HB131 HB31 HB121 HO21)
          | (go_at_call 12; refine (equal_same (d ++ b1) _ _ w41 (HV11.out.below HB141.out) HV41.out).mono ?_; rintro e w5 ⟨rfl, rfl⟩; have HS2 := HBn1; clear HV11 HB141 HV41 HBn1 HB11)
          | (go_at_call 17; have HP := hid ((puts_ints (HX.out.below HS2.out) HFF.out) d _ (HV.out.below HS2.out) HN.out (by omega)); rw [show (eList eNum li : List Nat) = b2 from HE2.out] at HP; refine HP.out.mono ?_; rintro e w12 ⟨v1, rfl, hv1, hn1, hb1⟩; obtain ⟨a12, c12, hv1e⟩ := byt_form hv1; rw [List.length_append] at hv1e; subst hv1e; have HV12 := hid hv1; have HB12 := hid (HS2.out.trans (hb1.mono HS2.out.size)); clear y0 y1 y2 y3; obtain ⟨y0, y1, y2, y3⟩ := HY.out _ HB12.out; clear hv1 hn1 hb1 HP HS2)
          | (go_at_call 50; refine (clone_any d _ w12 (HO.out.below HB12.out) HNO.out (by omega)).mono ?_; rintro e w22 ⟨v2, rfl, ho2, hb2⟩; obtain ⟨a22, c22, rfl⟩ := own_form ho2; have HO22 := hid ho2; have HB122 := hid hb2; have HB22 := hid (HB12.out.trans (hb2.mono HB12.out.size)); clear y0 y1 y2 y3; obtain ⟨y0, y1, y2, y3⟩ := HY.out _ HB22.out; clear ho2 hb2)
          | (go_at_call 17; have HP := hid ((puts_ints (HX.out.below HB22.out) HFF.out) [] (.slice none 0 0) (byt_nil _) nilOk_nil (by simp)); rw [show (eList eNum li : List Nat) = b2 from HE2.out, List.nil_append] at HP; refine HP.out.mono ?_; rintro e w32 ⟨v3, rfl, hv3, hn3, hb3⟩; obtain ⟨ad32, m32, c32, hv3e⟩ := byt_addr hv3 (by omega); subst hv3e; have HV32 := hid hv3; have HO32 := hid (own_keep HO22.out (keep_below hb3)); have HB132 := hid (HB122.out.trans (hb3.mono HB122.out.size)); have HB32 := hid (HB22.out.trans (hb3.mono HB22.out.size)); clear y0 y1 y2 y3; obtain ⟨y0, y1, y2, y3⟩ := HY.out _ HB32.out; clear hv3 hn3 hb3 HP HB22)
          | (refine step_append_bytG (by rfl) (.tmp 46) (.tmp 49) rfl w12.heap.size (.slice a22 d.length c22) d.length _ (by simp [Act.eval]) HO32.out b2 ad32 m32 c32 (by simp [Act.eval]) HV32.out (by omega) HB132.out.size ?_; intro v4 w42 hown4 hg4; obtain ⟨a42, c42, hv4e⟩ := own_form hown4; subst hv4e; have HB142 := hid (below_own HB132.out HO32.out hg4 HB132.out.size (Nat.le_refl _)); have HV42 : Hid (Byt w42 (.slice a42 (d.length + b2.length) c42) (d ++ b2)) := hid (byt_of_own (by have h := hown4; rw [own_snoc] at h; exact h) HV12.out.1); have HBn2 := hid (HB12.out.trans (HB142.out.mono HB12.out.size)); clear y0 y1 y2 y3; obtain ⟨y0, y1, y2, y3⟩ := HY.out _ HBn2.out; clear hown4 hg4 HO32 HV32 HB132 HB32 HB122 HO22)
          | (go_at_call 12; refine (equal_same (d ++ b2) _ _ w42 (HV12.out.below HB142.out) HV42.out).mono ?_; rintro e w5 ⟨rfl, rfl⟩; have HS3 := HBn2; clear HV12 HB142 HV42 HBn2 HB12)
          | (go_at_call 20; have HP := hid ((puts_secs (HX.out.below HS3.out) HFF.out) d _ (HV.out.below HS3.out) HN.out (by omega)); rw [show (eList eSec ls : List Nat) = b3 from HE3.out] at HP; refine HP.out.mono ?_; rintro e w13 ⟨v1, rfl, hv1, hn1, hb1⟩; obtain ⟨a13, c13, hv1e⟩ := byt_form hv1; rw [List.length_append] at hv1e; subst hv1e; have HV13 := hid hv1; have HB13 := hid (HS3.out.trans (hb1.mono HS3.out.size)); clear y0 y1 y2 y3; obtain ⟨y0, y1, y2, y3⟩ := HY.out _ HB13.out; clear hv1 hn1 hb1 HP HS3)
          | (go_at_call 50; refine (clone_any d _ w13 (HO.out.below HB13.out) HNO.out (by omega)).mono ?_; rintro e w23 ⟨v2, rfl, ho2, hb2⟩; obtain ⟨a23, c23, rfl⟩ := own_form ho2; have HO23 := hid ho2; have HB123 := hid hb2; have HB23 := hid (HB13.out.trans (hb2.mono HB13.out.size)); clear y0 y1 y2 y3; obtain ⟨y0, y1, y2, y3⟩ := HY.out _ HB23.out; clear ho2 hb2)
          | (go_at_call 20; have HP := hid ((puts_secs (HX.out.below HB23.out) HFF.out) [] (.slice none 0 0) (byt_nil _) nilOk_nil (by simp)); rw [show (eList eSec ls : List Nat) = b3 from HE3.out, List.nil_append] at HP; refine HP.out.mono ?_; rintro e w33 ⟨v3, rfl, hv3, hn3, hb3⟩; obtain ⟨ad33, m33, c33, hv3e⟩ := byt_addr hv3 (by omega); subst hv3e; have HV33 := hid hv3; have HO33 := hid (own_keep HO23.out (keep_below hb3)); have HB133 := hid (HB123.out.trans (hb3.mono HB123.out.size)); have HB33 := hid (HB23.out.trans (hb3.mono HB23.out.size)); clear y0 y1 y2 y3; obtain ⟨y0, y1, y2, y3⟩ := HY.out _ HB33.out; clear hv3 hn3 hb3 HP HB23)
          | (refine step_append_bytG (by rfl) (.tmp 59) (.tmp 62) rfl w13.heap.size (.slice a23 d.length c23) d.length _ (by simp [Act.eval]) HO33.out b3 ad33 m33 c33 (by simp [Act.eval]) HV33.out (by omega) HB133.out.size ?_; intro v4 w43 hown4 hg4; obtain ⟨a43, c43, hv4e⟩ := own_form hown4; subst hv4e; have HB143 := hid (below_own HB133.out HO33.out hg4 HB133.out.size (Nat.le_refl _)); have HV43 : Hid (Byt w43 (.slice a43 (d.length + b3.length) c43) (d ++ b3)) := hid (byt_of_own (by have h := hown4; rw [own_snoc] at h; exact h) HV13.out.1); have HBn3 := hid (HB13.out.trans (HB143.out.mono HB13.out.size)); clear y0 y1 y2 y3; obtain ⟨y0, y1, y2, y3⟩ := HY.out _ HBn3.out; clear hown4 hg4 HO33 HV33 HB133 HB33 HB123 HO23)
          | (go_at_call 12; refine (equal_same (d ++ b3) _ _ w43 (HV13.out.below HB143.out) HV43.out).mono ?_; rintro e w5 ⟨rfl, rfl⟩; have HS4 := HBn3; clear HV13 HB143 HV43 HBn3 HB13)
          | (go_at_call 22; have HP := hid ((puts_exts (HX.out.below HS4.out) HFF.out) d _ (HV.out.below HS4.out) HN.out (by omega)); rw [show (eList eExtI le : List Nat) = b4 from HE4.out] at HP; refine HP.out.mono ?_; rintro e w14 ⟨v1, rfl, hv1, hn1, hb1⟩; obtain ⟨a14, c14, hv1e⟩ := byt_form hv1; rw [List.length_append] at hv1e; subst hv1e; have HV14 := hid hv1; have HB14 := hid (HS4.out.trans (hb1.mono HS4.out.size)); clear y0 y1 y2 y3; obtain ⟨y0, y1, y2, y3⟩ := HY.out _ HB14.out; clear hv1 hn1 hb1 HP HS4)
          | (go_at_call 50; refine (clone_any d _ w14 (HO.out.below HB14.out) HNO.out (by omega)).mono ?_; rintro e w24 ⟨v2, rfl, ho2, hb2⟩; obtain ⟨a24, c24, rfl⟩ := own_form ho2; have HO24 := hid ho2; have HB124 := hid hb2; have HB24 := hid (HB14.out.trans (hb2.mono HB14.out.size)); clear y0 y1 y2 y3; obtain ⟨y0, y1, y2, y3⟩ := HY.out _ HB24.out; clear ho2 hb2)
          | (go_at_call 22; have HP := hid ((puts_exts (HX.out.below HB24.out) HFF.out) [] (.slice none 0 0) (byt_nil _) nilOk_nil (by simp)); rw [show (eList eExtI le : List Nat) = b4 from HE4.out, List.nil_append] at HP; refine HP.out.mono ?_; rintro e w34 ⟨v3, rfl, hv3, hn3, hb3⟩; obtain ⟨ad34, m34, c34, hv3e⟩ := byt_addr hv3 (by omega); subst hv3e; have HV34 := hid hv3; have HO34 := hid (own_keep HO24.out (keep_below hb3)); have HB134 := hid (HB124.out.trans (hb3.mono HB124.out.size)); have HB34 := hid (HB24.out.trans (hb3.mono HB24.out.size)); clear y0 y1 y2 y3; obtain ⟨y0, y1, y2, y3⟩ := HY.out _ HB34.out; clear hv3 hn3 hb3 HP HB24)
          | (refine step_append_bytG (by rfl) (.tmp 72) (.tmp 75) rfl w14.heap.size (.slice a24 d.length c24) d.length _ (by simp [Act.eval]) HO34.out b4 ad34 m34 c34 (by simp [Act.eval]) HV34.out (by omega) HB134.out.size ?_; intro v4 w44 hown4 hg4; obtain ⟨a44, c44, hv4e⟩ := own_form hown4; subst hv4e; have HB144 := hid (below_own HB134.out HO34.out hg4 HB134.out.size (Nat.le_refl _)); have HV44 : Hid (Byt w44 (.slice a44 (d.length + b4.length) c44) (d ++ b4)) := hid (byt_of_own (by have h := hown4; rw [own_snoc] at h; exact h) HV14.out.1); have HBn4 := hid (HB14.out.trans (HB144.out.mono HB14.out.size)); clear y0 y1 y2 y3; obtain ⟨y0, y1, y2, y3⟩ := HY.out _ HBn4.out; clear hown4 hg4 HO34 HV34 HB134 HB34 HB124 HO24)
          | (go_at_call 12; refine (equal_same (d ++ b4) _ _ w44 (HV14.out.below HB144.out) HV44.out).mono ?_; rintro e w5 ⟨rfl, rfl⟩; have HS5 := HBn4; clear HV14 HB144 HV44 HBn4 HB14)
          | (go_at_call 24; have HP := hid ((puts_wris (HX.out.below HS5.out) HFF.out) d _ (HV.out.below HS5.out) HN.out (by omega)); rw [show (eList eWri lw : List Nat) = b5 from HE5.out] at HP; refine HP.out.mono ?_; rintro e w15 ⟨v1, rfl, hv1, hn1, hb1⟩; obtain ⟨a15, c15, hv1e⟩ := byt_form hv1; rw [List.length_append] at hv1e; subst hv1e; have HV15 := hid hv1; have HB15 := hid (HS5.out.trans (hb1.mono HS5.out.size)); clear y0 y1 y2 y3; obtain ⟨y0, y1, y2, y3⟩ := HY.out _ HB15.out; clear hv1 hn1 hb1 HP HS5)
          | (go_at_call 50; refine (clone_any d _ w15 (HO.out.below HB15.out) HNO.out (by omega)).mono ?_; rintro e w25 ⟨v2, rfl, ho2, hb2⟩; obtain ⟨a25, c25, rfl⟩ := own_form ho2; have HO25 := hid ho2; have HB125 := hid hb2; have HB25 := hid (HB15.out.trans (hb2.mono HB15.out.size)); clear y0 y1 y2 y3; obtain ⟨y0, y1, y2, y3⟩ := HY.out _ HB25.out; clear ho2 hb2)
          | (go_at_call 24; have HP := hid ((puts_wris (HX.out.below HB25.out) HFF.out) [] (.slice none 0 0) (byt_nil _) nilOk_nil (by simp)); rw [show (eList eWri lw : List Nat) = b5 from HE5.out, List.nil_append] at HP; refine HP.out.mono ?_; rintro e w35 ⟨v3, rfl, hv3, hn3, hb3⟩; obtain ⟨ad35, m35, c35, hv3e⟩ := byt_addr hv3 (by omega); subst hv3e; have HV35 := hid hv3; have HO35 := hid (own_keep HO25.out (keep_below hb3)); have HB135 := hid (HB125.out.trans (hb3.mono HB125.out.size)); have HB35 := hid (HB25.out.trans (hb3.mono HB25.out.size)); clear y0 y1 y2 y3; obtain ⟨y0, y1, y2, y3⟩ := HY.out _ HB35.out; clear hv3 hn3 hb3 HP HB25)
          | (refine step_append_bytG (by rfl) (.tmp 85) (.tmp 88) rfl w15.heap.size (.slice a25 d.length c25) d.length _ (by simp [Act.eval]) HO35.out b5 ad35 m35 c35 (by simp [Act.eval]) HV35.out (by omega) HB135.out.size ?_; intro v4 w45 hown4 hg4; obtain ⟨a45, c45, hv4e⟩ := own_form hown4; subst hv4e; have HB145 := hid (below_own HB135.out HO35.out hg4 HB135.out.size (Nat.le_refl _)); have HV45 : Hid (Byt w45 (.slice a45 (d.length + b5.length) c45) (d ++ b5)) := hid (byt_of_own (by have h := hown4; rw [own_snoc] at h; exact h) HV15.out.1); have HBn5 := hid (HB15.out.trans (HB145.out.mono HB15.out.size)); clear y0 y1 y2 y3; obtain ⟨y0, y1, y2, y3⟩ := HY.out _ HBn5.out; clear hown4 hg4 HO35 HV35 HB135 HB35 HB125 HO25)
          | (go_at_call 12; refine (equal_same (d ++ b5) _ _ w45 (HV15.out.below HB145.out) HV45.out).mono ?_; rintro e w5 ⟨rfl, rfl⟩; have HS6 := HBn5; clear HV15 HB145 HV45 HBn5 HB15))
      go_wp2_with fail
      refine (equal_same d _ _ w45 (HV.out.below HS6.out) (HO.out.below HS6.out)).mono ?_
      rintro e w6 ⟨rfl, rfl⟩
      go_wp2_with fail
      refine (HA.out _).mono ?_
      rintro e w7 ⟨rfl, hb7⟩
      have HB7 := hid (below_both HBo.out (below_both HS6.out hb7))
      clear hb7
      go_wp2
      go_ret
      exact ⟨rfl, HB7.out⟩
end Go.Proofs.Ytchpoddfjbopbaa
