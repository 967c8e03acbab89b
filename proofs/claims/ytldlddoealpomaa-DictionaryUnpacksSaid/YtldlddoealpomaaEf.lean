/- The reference's literals. -/
import Derived.Test.YtldlddoealpomaaEe
import Derived.Test.YtldlddoealpomaaEc
namespace Go.Proofs.Ytldlddoealpomaa
open Go.RowKit Go.Lib

/-- The tokens of literals. -/
def lt : Nat → List Nat → List Nat
  | 0, _ => []
  | f + 1, l => if l = [] then [] else [min l.length 127] ++ (l.take 127 ++ lt f (l.drop 127))
theorem lt_nil (f : Nat) : lt f [] = [] := by cases f <;> simp [lt]
def LitQ (base : Nat) (vo : Value) (l : List Nat) (w : World) (e : Ending) (w' : World) : Prop := ∃ v', e = .returned v' ∧ w'.ownsRow base 5 1 v' l.length (l.map byteV) ∧ Chg w.heap.size vo v' w w'
def lenOf2 : Value → Nat
  | .slice _ n _ => n
  | _ => 0
theorem chg_low {g : Nat} {v v' : Value} {a b : World} (h : Chg g v v' a b) : a.heap.size ≤ b.heap.size := h.low.size
set_option maxHeartbeats 4000000 in
set_option maxRecDepth 100000 in
theorem refLits_any (o l : List Nat) (vo vl : Value) (base : Nat) (w : World) (ho : w.ownsRow base 5 1 vo o.length (o.map byteV)) (hv : Byt w vl l) (hn : NilOk vl) (ha : Apart vl vo) (hbs : base ≤ w.heap.size) (hol : o.length ≤ 300000000000) (hl : l.length ≤ 300000000000) :
    Calls Try.prog 27 #[vo, vl] w (LitQ base vo (o ++ lt l.length l) w) := by
  obtain ⟨T, hT⟩ : ∃ T, o ++ lt l.length l = T := ⟨_, rfl⟩
  have HT := hid hT
  rw [hT]
  have HO := hid ho
  have HV := hid hv
  have HN := hid hn
  have HA := hid ha
  obtain ⟨A, c, rfl⟩ := byt_form hv
  obtain ⟨B, c', rfl⟩ := own_form ho
  have HCH := hid (Chg.refl w.heap.size (.slice B o.length c') w)
  obtain ⟨lb, hlb⟩ : ∃ lb, o.length + 2 * l.length = lb := ⟨_, rfl⟩
  have hlb2 : lb ≤ 900000000000 := by omega
  have HLB := hid hlb
  clear hT ho hv hn ha hlb hol hl
  go_enter Try.func27, Try.ntmps27
  go_wp2
  go_loopw [0, 1] (fun vo' vl' wr => ∃ (f : Nat) (t r : List Nat), r.length ≤ f ∧ t.length + 2 * r.length ≤ lb ∧ Hid (t ++ lt f r = T) ∧ Hid (wr.ownsRow base 5 1 vo' t.length (t.map byteV)) ∧ Hid (Byt wr vl' r) ∧ Hid (NilOk vl') ∧ Hid (Apart vl' vo') ∧ Hid (Chg w.heap.size (.slice B o.length c') vo' w wr) ∧ base ≤ wr.heap.size) (fun _ vl' _ => lenOf2 vl')
  case atStart => exact ⟨l.length, o, l, Nat.le_refl _, by have := HLB.out; omega, HT, HO, HV, HN, HA, HCH, hbs⟩
  case round =>
    clear HO HV HN HA HCH
    obtain ⟨f, t, r, hf, htl, HE, HO, HY, HN, HA, HCH, hz⟩ := hrel
    obtain ⟨A1, c1, rfl⟩ := byt_form HY.out
    obtain ⟨B1, d1, rfl⟩ := own_form HO.out
    have hcc := byt_cap HY.out
    rcases r with _ | ⟨x, r0⟩
    · have HR : Hid (t = T) := hid (by rw [← HE.out, lt_nil, List.append_nil])
      clear HE
      go_wp2
      go_ret
      exact ⟨_, rfl, by rw [← HR.out]; exact HO.out, HCH.out⟩
    · obtain ⟨r, hr⟩ : ∃ r, x :: r0 = r := ⟨_, rfl⟩
      have hr0 : 0 < r.length := by rw [← hr]; simp
      rw [hr] at HE HY hf htl hcc HN HA ⊢
      obtain ⟨f, rfl⟩ : ∃ f', f = f' + 1 := ⟨f - 1, by omega⟩
      have HS : Hid (lt (f + 1) r = [min r.length 127] ++ (r.take 127 ++ lt f (r.drop 127))) := hid (by rw [lt, if_neg (by intro h; rw [h] at hr0; simp at hr0)])
      obtain ⟨ad, rfl⟩ := byt_some HY.out hr0
      obtain ⟨n, hn⟩ : ∃ n, min r.length 127 = n := ⟨_, rfl⟩
      have hm : min (r.length : Int) 127 = (n : Int) := by omega
      have hn8 : n ≤ 127 := by omega
      have hnl : n ≤ r.length := by omega
      have hn0 : 0 < n := by omega
      have hwc : IntKind.u8.wrap (n : Int) = (n : Int) := by rw [IntKind.wrap_u8]; omega
      have htk : r.take 127 = r.take n := by
        rcases Nat.le_total r.length 127 with h | h
        · rw [List.take_of_length_le h, List.take_of_length_le (by omega)]
        · rw [show n = 127 by omega]
      have hdr : r.drop 127 = r.drop n := by
        rcases Nat.le_total r.length 127 with h | h
        · rw [List.drop_eq_nil_of_le h, List.drop_eq_nil_of_le (by omega)]
        · rw [show n = 127 by omega]
      rw [hn, htk, hdr] at HS
      have HE2 : Hid ((t ++ [n] ++ r.take n) ++ lt f (r.drop n) = T) := hid (by rw [← HE.out, HS.out, List.append_assoc, List.append_assoc])
      obtain ⟨R, hR⟩ : ∃ R, r.length = R := ⟨_, rfl⟩
      obtain ⟨L, hL⟩ : ∃ L, t.length = L := ⟨_, rfl⟩
      have HR := hid hR
      have HL := hid hL
      have HCUT := hid (byt_cut (k := n) HY.out hnl)
      have HCN : Hid (NilOk (.slice (some ad) n c1)) := hid (nilOk_some _ _ _)
      have HY2 := hid (byt_from (k := n) HY.out hnl)
      have HN2 := hid (nilOk_from (k := n) HN.out)
      have HA2 := hid (apart_from (k := n) HA.out)
      have HAC := hid (apart_sub (n' := n) (c' := c1) HA.out (fun a e _ => ⟨a, e, rfl, by omega⟩))
      have hst := run_slice_to' (some ad) r.length c1 n hnl hcc
      have hsf := run_slice_from (some ad) r.length c1 n hnl
      have htk2 : (r.take n).length = n := by rw [List.length_take]; omega
      have HTL := hid htk2
      have HOA := hid (own_keep HO.out (keep_below (al1 wr (.cells #[.int .u8 (n : Int)] 5))))
      have HYA := hid (HCUT.out.below (al1 wr (.cells #[.int .u8 (n : Int)] 5)))
      have HYB := hid (HY2.out.below (al1 wr (.cells #[.int .u8 (n : Int)] 5)))
      have HCA := hid (HCH.out.trans (Chg.below (al1 wr (.cells #[.int .u8 (n : Int)] 5))))
      have HZ1 := hid (byt_one wr n (by omega))
      rw [hL] at HOA htl HA2 HAC HCA
      rw [hR] at hst hsf hm hf htl hnl hcc HY2 HN2 HA2 HYB
      rw [hL, hR]
      clear HE HS HO HY HN HA HCH HCUT hr hr0 htk hdr htk2 hR hL hn HY2
      go_wp2_with (first | (at_builtin; refine append_byt_at rfl (.tmp 12) (.tmp 15) rfl base (.slice B1 L d1) L _ rfl HOA.out [n] _ rfl HZ1.out (nilOk_some _ _ _) (by simp; omega) (by simp; omega) ?_; intro v4 w4 ho4 hg4 hat4; have HA4 := hid (apart_at HYA.out HAC.out hat4); have HB4 := hid (apart_at HYB.out HA2.out hat4); have HY4 := hid (byt_grown HYA.out hg4 HAC.out); have HYB4 := hid (byt_grown HYB.out hg4 HA2.out); have HC4 := hid (HCA.out.trans (Chg.grown hg4 hat4)); have hz4 : base ≤ w4.heap.size := Nat.le_trans (by simp; omega) hg4.size; obtain ⟨oA4, oc4, rfl⟩ := own_form ho4; have HO4 := hid ho4; clear ho4 hg4 hat4) | (at_builtin; refine append_byt_at rfl (.tmp 17) (.tmp 20) rfl base (.slice oA4 (L + [n].length) oc4) (L + [n].length) _ rfl HO4.out (r.take n) _ rfl HY4.out HCN.out (by rw [HTL.out]; simp; omega) hz4 ?_; intro v5 w5 ho5 hg5 hat5; rw [HTL.out] at ho5; have HB5 := hid (apart_at HYB4.out HB4.out hat5); have HYB5 := hid (byt_grown HYB4.out hg5 HB4.out); have HC5 := hid (HC4.out.trans (Chg.grown hg5 hat5)); have hz5 : base ≤ w5.heap.size := Nat.le_trans hz4 hg5.size; obtain ⟨oA5, oc5, rfl⟩ := own_form ho5; have HO5 := hid ho5; clear ho5 hg5 hat5))
      have hlen : (t ++ [n] ++ r.take n).length = L + 1 + n := by rw [List.length_append, List.length_append, HTL.out, HL.out]; rfl
      have HLN := hid hlen
      have hdl : (r.drop n).length = R - n := by rw [List.length_drop, HR.out]
      have HDL := hid hdl
      have HO6 : Hid (w5.ownsRow base 5 1 (.slice oA5 (L + 1 + n) oc5) (t ++ [n] ++ r.take n).length ((t ++ [n] ++ r.take n).map byteV)) := hid (by rw [hlen, List.map_append, List.map_append]; exact HO5.out)
      clear hlen hdl
      try go_roundw
      case rel => exact ⟨f, t ++ [n] ++ r.take n, r.drop n, by rw [HDL.out]; omega, by rw [HDL.out, HLN.out]; omega, HE2, HO6, HYB5, HN2, HB5, HC5, hz5⟩
      case measure => simp [lenOf2]; omega
end Go.Proofs.Ytldlddoealpomaa
