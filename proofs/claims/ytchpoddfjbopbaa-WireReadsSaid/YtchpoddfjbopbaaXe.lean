/- The reference's readers: Sectors. -/
import Derived.Test.YtchpoddfjbopbaaXd
namespace Go.Proofs.Ytchpoddfjbopbaa
open Go.RowKit Go.Lib

theorem eight {bs : List Nat} (h : bs.length = 8) : ∃ x0 x1 x2 x3 x4 x5 x6 x7, bs = [x0, x1, x2, x3, x4, x5, x6, x7] := by
  rcases bs with _ | ⟨x0, bs⟩
  · simp at h
  rcases bs with _ | ⟨x1, bs⟩
  · simp at h
  rcases bs with _ | ⟨x2, bs⟩
  · simp at h
  rcases bs with _ | ⟨x3, bs⟩
  · simp at h
  rcases bs with _ | ⟨x4, bs⟩
  · simp at h
  rcases bs with _ | ⟨x5, bs⟩
  · simp at h
  rcases bs with _ | ⟨x6, bs⟩
  · simp at h
  rcases bs with _ | ⟨x7, bs⟩
  · simp at h
  rcases bs with _ | ⟨y, bs⟩
  · exact ⟨_, _, _, _, _, _, _, _, rfl⟩
  · simp at h

set_option maxHeartbeats 2000000 in
set_option maxRecDepth 100000 in
theorem rsecs (s : List Nat) (v : Value) (w : World) (hv : Byt w v s) (hn : NilOk v) (hl : s.length ≤ 90000) :
    Calls Try.prog 34 #[v] w (Red (dList dSec) (LV 59 8 crSec) (.slice none 0 0) w s) := by
  obtain ⟨i0, hi, hz0, hz1, hz2⟩ := info_parts info59
  have HP := hid (rlength s v w hv hn hl)
  have HEL := hid (fun (s' : List Nat) (v' : Value) (W : World) (hv : VByt W v' s') (h8 : 8 ≤ s'.length) (hl : s'.length ≤ 90000) => rrest s' 8 v' W (vbyt_byt hv) (vbyt_nil hv) h8 hl)
  obtain ⟨A, c, rfl⟩ := byt_form hv
  clear hv hn
  go_enter Try.func34, Try.ntmps34
  go_wp2_with fail
  refine HP.out.mono ?_
  rintro e w1 ⟨v1, r1, er, rfl, hb, h⟩
  rcases h with ⟨n, t, hd, rfl, rfl, hr⟩ | ⟨hd, he, rfl, rfl⟩
  · have htl : t.length ≤ 90000 := Nat.le_trans (shr_length _ _ _ hd) hl
    have hx := dLength_le hd
    have HD : Hid (dList dSec s = dMany dSec n t) := hid (dList_len hd)
    have HR := hid hr
    have HU := hid ((Upd.refl w.heap.size w).of_below hb)
    clear hd hr hl hb
    obtain ⟨a1, c1, rfl⟩ := byt_form (vbyt_byt HR.out)
    go_wp2_with fail
    go_loopw [0, 7, 8] (fun d v i wr => ∃ (k : Nat) (sk : List Nat) (xs : List (List Nat)) (rows : List (List Value)), k ≤ n ∧ Hid (xs.length = k) ∧ sk.length ≤ 90000 ∧ i = .int .i64 (k : Int) ∧ Hid (VByt wr d sk) ∧ Hid (Upd w.heap.size w wr) ∧ Hid (wr.ownsRow w.heap.size 59 8 v k rows.flatten) ∧ Hid (RowsOf crSec wr rows xs) ∧ Hid (dMany dSec n t = app xs (dMany dSec (n - k) sk))) (fun _ _ i _ => n - (Lib.intOf i).toNat)
    case atStart => exact ⟨0, t, [], [], by omega, hid rfl, by omega, rfl, HR, HU, hid (World.ownsRow_nil _ _ _ _), hid (rowsOf_nil _ _), hid (app_nil _).symm⟩
    case round =>
      clear HR HU HP
      obtain ⟨k, sk, xs, rows, hk, HX, hskl, rfl, HV, HU, HO, HW, HM⟩ := hrel
      obtain ⟨av, cv, rfl⟩ := ownAny_form HO.out
      obtain ⟨ad, cd, rfl⟩ := byt_form (vbyt_byt HV.out)
      obtain ⟨wo, hwo⟩ : ∃ x, x = wr := ⟨wr, rfl⟩
      subst hwo
      have hws := HU.out.low.size
      by_cases hkn : k < n
      · by_cases h8 : sk.length < 8
        · have d1 : decide ((sk.length : Int) < 8) = true := by simp; omega
          have H8 := hid h8
          clear h8
          go_wp2_with fail
          refine bodyPost_ret (v := .tuple #[.slice none 0 0, .slice none 0 0, .int .i64 10]) (by simp [results, Try.results34, go_sem]) rfl ?_
          refine ⟨_, _, _, rfl, HU.out.below (Nat.le_refl _) (Nat.le_refl _), .inr ⟨?_, by decide, rfl, rfl⟩⟩
          rw [HD.out, HM.out, show n - k = (n - k - 1) + 1 by omega, many_fail (show dSec sk = .error 10 from if_pos H8.out)]
        · have d1 : decide ((sk.length : Int) < 8) = false := by simp; omega
          go_wp2_with fail
          go_loopw [10] (fun i wr2 => ∃ (j : Nat) (bs : List Nat), j ≤ 8 ∧ i = .int .i64 (j : Int) ∧ Hid (bs.length = 8) ∧ Hid (∀ i, i < j → bs[i]? = sk[i]?) ∧ Hid (B8 bs) ∧ Hid (wr2.heap[wo.heap.size]? = some (.cells (cSec bs).toArray 59)) ∧ Hid (Upd wo.heap.size wo wr2)) (fun i _ => 8 - (Lib.intOf i).toNat)
          case atStart => exact ⟨0, [0, 0, 0, 0, 0, 0, 0, 0], by omega, rfl, hid rfl, hid (fun i h => by omega), hid (by intro x hx; simp at hx; omega), hid (heap_alloc_new wo _), hid ((Upd.refl _ wo).alloc _)⟩
          case round =>
            obtain ⟨j, bs, hj, rfl, HBL, HBE, HB8, HBX, HBU⟩ := hrel
            by_cases hj8 : j < 8
            · have d8 : decide ((j : Int) < 8) = true := by simp; omega
              obtain ⟨x, hx⟩ : ∃ x, sk[j]? = some x := ⟨sk[j], List.getElem?_eq_getElem (by omega)⟩
              have hV2 : Byt (_ : World) (.slice ad sk.length cd) sk := (vbyt_byt HV.out).below (HBU.out.below (Nat.le_refl _) (Nat.le_refl _))
              have hx8 : x < 256 := hV2.1 x (List.mem_of_getElem? hx)
              obtain ⟨_, A', c', e1, q1, q2, b, off, hA, hc⟩ := hV2
              injection e1 with e1 _ e2
              subst e1 e2
              obtain ⟨hA1, hblt⟩ := hA (by omega)
              subst hA1
              have hcx := hc j x hx
              obtain ⟨y, hy⟩ : ∃ y, bs[j]? = some y := ⟨bs[j]'(by rw [HBL.out]; omega), List.getElem?_eq_getElem _⟩
              have c0 := cell_of_row _ _ j _ _ _ HBX.out
              rw [show (cSec bs).toArray[j]? = some (byteV y) by simp [cSec, hy]] at c0
              unfold byteV at c0
              have f0 := box_fr HBX.out j
              have HX2 := hid hx
              clear hc hA hx
              go_wp2_with fail
              go_roundw
              case rel => exact ⟨j + 1, bs.set j x, by omega, by go_num, hid (by rw [List.length_set]; exact HBL.out), hid (fun i hi => by
                rw [List.getElem?_set]
                split
                · subst i; rw [if_pos (by rw [HBL.out]; exact hj8), HX2.out]
                · exact HBE.out i (by omega)), hid (fun z hz => by
                rcases List.mem_or_eq_of_mem_set hz with h | h
                · exact HB8.out z h
                · rw [h]; exact hx8), hid (by
                have h := box_set HBX.out j (.int .u8 (x : Int))
                rw [show (cSec (bs.set j x)).toArray = (cSec bs).toArray.setIfInBounds j (.int .u8 (x : Int)) by simp [cSec, List.map_set, byteV]]
                exact h), hid (HBU.out.set j _)⟩
              case measure => simp [Lib.intOf]; omega
            · obtain rfl : j = 8 := by omega
              obtain ⟨x0, x1, x2, x3, x4, x5, x6, x7, rfl⟩ := eight HBL.out
              have hbs : [x0, x1, x2, x3, x4, x5, x6, x7] = sk.take 8 := by
                apply List.ext_getElem?
                intro i
                by_cases hi : i < 8
                · rw [List.getElem?_take, if_pos hi]; exact HBE.out i hi
                · rw [List.getElem?_eq_none (by simp; omega), List.getElem?_eq_none (by simp; omega)]
              have hdp : dSec sk = .ok ([x0, x1, x2, x3, x4, x5, x6, x7], sk.drop 8) := by
                show dTake 8 sk = _
                unfold dTake
                rw [if_neg h8, hbs]
              have HM2 : Hid (dMany dSec n t = app (xs ++ [[x0, x1, x2, x3, x4, x5, x6, x7]]) (dMany dSec (n - (k + 1)) (sk.drop 8))) := hid (HM.out.trans (by have e := many_next (n := n - (k + 1)) hdp xs; rwa [show n - (k + 1) + 1 = n - k by omega] at e))
              have hb2 := HBU.out.below (Nat.le_refl _) (Nat.le_refl _)
              have HO3 := hid ((own_keep HO.out (keep_below hb2)).alloc (.cells #[.int .u8 (x0 : Int), .int .u8 (x1 : Int), .int .u8 (x2 : Int), .int .u8 (x3 : Int), .int .u8 (x4 : Int), .int .u8 (x5 : Int), .int .u8 (x6 : Int), .int .u8 (x7 : Int)] 59))
              have HV3 := hid (vbyt_below (al1 wr (.cells #[.int .u8 (x0 : Int), .int .u8 (x1 : Int), .int .u8 (x2 : Int), .int .u8 (x3 : Int), .int .u8 (x4 : Int), .int .u8 (x5 : Int), .int .u8 (x6 : Int), .int .u8 (x7 : Int)] 59)) (vbyt_below hb2 HV.out))
              have HU3 := hid ((HU.out.of_below hb2).alloc (.cells #[.int .u8 (x0 : Int), .int .u8 (x1 : Int), .int .u8 (x2 : Int), .int .u8 (x3 : Int), .int .u8 (x4 : Int), .int .u8 (x5 : Int), .int .u8 (x6 : Int), .int .u8 (x7 : Int)] 59))
              have hwr := (HU.out.of_below hb2).low.size
              have hbx : wr.heap[wo.heap.size]? = some (.cells #[.int .u8 (x0 : Int), .int .u8 (x1 : Int), .int .u8 (x2 : Int), .int .u8 (x3 : Int), .int .u8 (x4 : Int), .int .u8 (x5 : Int), .int .u8 (x6 : Int), .int .u8 (x7 : Int)] 59) := HBX.out
              have c0 : wr.cell? ⟨wo.heap.size, 0, none⟩ = some (.int .u8 (x0 : Int)) := cell_of_row _ _ 0 _ _ _ hbx
              have c1 : wr.cell? ⟨wo.heap.size, 1, none⟩ = some (.int .u8 (x1 : Int)) := cell_of_row _ _ 1 _ _ _ hbx
              have c2 : wr.cell? ⟨wo.heap.size, 2, none⟩ = some (.int .u8 (x2 : Int)) := cell_of_row _ _ 2 _ _ _ hbx
              have c3 : wr.cell? ⟨wo.heap.size, 3, none⟩ = some (.int .u8 (x3 : Int)) := cell_of_row _ _ 3 _ _ _ hbx
              have c4 : wr.cell? ⟨wo.heap.size, 4, none⟩ = some (.int .u8 (x4 : Int)) := cell_of_row _ _ 4 _ _ _ hbx
              have c5 : wr.cell? ⟨wo.heap.size, 5, none⟩ = some (.int .u8 (x5 : Int)) := cell_of_row _ _ 5 _ _ _ hbx
              have c6 : wr.cell? ⟨wo.heap.size, 6, none⟩ = some (.int .u8 (x6 : Int)) := cell_of_row _ _ 6 _ _ _ hbx
              have c7 : wr.cell? ⟨wo.heap.size, 7, none⟩ = some (.int .u8 (x7 : Int)) := cell_of_row _ _ 7 _ _ _ hbx
              have HBK := hid (CRz (cs := (cSec [x0, x1, x2, x3, x4, x5, x6, x7])) (heap_alloc_new wr (.cells #[.int .u8 (x0 : Int), .int .u8 (x1 : Int), .int .u8 (x2 : Int), .int .u8 (x3 : Int), .int .u8 (x4 : Int), .int .u8 (x5 : Int), .int .u8 (x6 : Int), .int .u8 (x7 : Int)] 59)))
              have H8 : Hid (8 ≤ sk.length) := hid (by omega)
              have HB8x : Hid (crSec wr (cSec [x0, x1, x2, x3, x4, x5, x6, x7]) [x0, x1, x2, x3, x4, x5, x6, x7]) := hid ⟨rfl, rfl, HB8.out⟩
              clear hb2 hdp hbs HM HBE HB8
              go_wp2_with (at_builtin; refine wpList_append_own _ rfl (.tmp 38) (.tmp 40) 30 rfl w.heap.size 59 i0 (.agg #[.int .u8 0, .int .u8 0, .int .u8 0, .int .u8 0, .int .u8 0, .int .u8 0, .int .u8 0, .int .u8 0]) 8 8 Try.underlying30 hi hz0 hz1 hz2 rfl (by decide) (.slice av k cv) k rows.flatten rfl HO3.out ⟨wr.heap.size, 0, none⟩ 1 1 (cSec [x0, x1, x2, x3, x4, x5, x6, x7]) rfl rfl HBK.out (byteV_one _) (by unfold maxLen; omega) (by omega) (by simp; omega) ?_; intro v4 w4 hown4 hg4 _; obtain ⟨av4, cv4, rfl⟩ := ownAny_form hown4; have HR4 := hid (vbyt_keep (keep_grown HO3.out (by decide) hg4) HV3.out); have HU4 := hid (HU3.out.grown hg4 (fun k' e => (HO3.out.lt k' e).1)); have HO4 := hid hown4; clear hown4 hg4)
              refine (HEL.out sk _ w4 HR4.out H8.out hskl).mono ?_
              rintro e w5 ⟨v5, rfl, ho5, hb5⟩
              obtain ⟨a5, c5, rfl⟩ := own_form ho5
              have HO5 := hid (own_keep HO4.out (keep_below hb5))
              have HU5 := hid (HU4.out.of_below hb5)
              have HR5 : Hid (VByt w5 (.slice a5 (sk.drop 8).length c5) (sk.drop 8)) := hid ⟨b8_drop HV.out.1 _, _, ho5⟩
              clear ho5 hb5
              go_wp2
              go_roundw
              case rel => exact ⟨k + 1, sk.drop 8, xs ++ [[x0, x1, x2, x3, x4, x5, x6, x7]], rows ++ [cSec [x0, x1, x2, x3, x4, x5, x6, x7]], by omega, hid (by rw [List.length_append, HX.out]; rfl), by rw [List.length_drop]; omega, by go_num, hid (by have h := HR5.out; rwa [List.length_drop] at h), HU5, hid (by have h := HO5.out; rw [List.flatten_append, List.flatten_singleton]; exact h), hid (rowsOf_snoc (rowsOf_keep (fun r x h => h) HW.out) HB8x.out), HM2⟩
              case measure => simp [Lib.intOf]; omega
      · obtain rfl : k = n := by omega
        go_wp2
        refine bodyPost_ret (v := .tuple #[.slice av k cv, .slice ad sk.length cd, .int .i64 0]) (by simp [results, Try.results34, go_sem]) rfl ?_
        refine ⟨_, _, _, rfl, HU.out.below (Nat.le_refl _) (Nat.le_refl _), .inl ⟨xs, sk, ?_, rfl, ⟨_, rows, by rw [HX.out]; exact HO.out, HW.out⟩, HV.out⟩⟩
        rw [HD.out, HM.out, Nat.sub_self, many_end]
  · have HD := hid hd
    have HE := hid he
    have HB := hid hb
    have hb : (er == 0) = false := by rw [beq_eq_false_iff_ne]; exact he
    have hb2 : (er != 0) = true := by simpa using he
    clear hd he
    go_wp2
    refine bodyPost_ret (v := .tuple #[.slice none 0 0, .slice none 0 0, .int .i64 er]) (by simp [results, Try.results34, go_sem]) rfl ?_
    exact ⟨_, _, _, rfl, HB.out, .inr ⟨dList_err HD.out, HE.out, rfl, rfl⟩⟩
end Go.Proofs.Ytchpoddfjbopbaa
#print axioms Go.Proofs.Ytchpoddfjbopbaa.rsecs
